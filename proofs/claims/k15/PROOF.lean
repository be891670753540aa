import PyProof.Rows.All
import Wide.All
import OpenK.AllK
import Wide.FinOn
import Lean
import PyProof.EqAt
import PyProof.EqKinds
import PyProof.TupleCall
import PyProof.NeData
import PyProof.DictRoadsH
import Wide.Seal
import PyProof.CompMap
import PyProof.DictIter
import PyProof.DictWalks
import PyProof.P3In
import OpenK.KOwn
import KE.KTryMore
import PyProof.RulesAs
import PyProof.ExcArgs
import PyProof.NsDelKeeps
import KE.KIsAll
import OpenK.KDescr
import PyProof.CompUse
import PyProof.ZipIter
import PyProof.TupleIter
import KE.KRevSl
import PyProof.Rows.SortWalk
import PyProof.MeetsSeq
import KE.KDictSum
import PyProof.ListRange
import PySem.Challenge.RW_askring_k15_refused_then_taken
def PySem.W.Fast.tw10006390135721973573 : Nat := 0
def PySem.W.Fast.tw10871306040134741654 : Nat := 0
def PySem.W.Fast.tw11058598693521432021 : Nat := 0
def PySem.W.Fast.tw11512934015430695342 : Nat := 0
def PySem.W.Fast.tw11656831425183927327 : Nat := 0
def PySem.W.Fast.tw11874159764171764947 : Nat := 0
def PySem.W.Fast.tw1188330616610894915 : Nat := 0
def PySem.W.Fast.tw11944729590178472041 : Nat := 0
def PySem.W.Fast.tw12294419802761489870 : Nat := 0
def PySem.W.Fast.tw12302364771160120459 : Nat := 0
def PySem.W.Fast.tw14656196126391772364 : Nat := 0
def PySem.W.Fast.tw14716600844842567548 : Nat := 0
def PySem.W.Fast.tw16220201674989275725 : Nat := 0
def PySem.W.Fast.tw16325121990986452282 : Nat := 0
def PySem.W.Fast.tw16891334701025553657 : Nat := 0
def PySem.W.Fast.tw17484394002553173420 : Nat := 0
def PySem.W.Fast.tw17500254670820071962 : Nat := 0
def PySem.W.Fast.tw17633498456501873708 : Nat := 0
def PySem.W.Fast.tw18193866111563944953 : Nat := 0
def PySem.W.Fast.tw2599183901806024295 : Nat := 0
def PySem.W.Fast.tw3615119009116497286 : Nat := 0
def PySem.W.Fast.tw4229215706547705249 : Nat := 0
def PySem.W.Fast.tw4243413554988486180 : Nat := 0
def PySem.W.Fast.tw4286288273782397743 : Nat := 0
def PySem.W.Fast.tw4393306746956497070 : Nat := 0
def PySem.W.Fast.tw6025933647833865259 : Nat := 0
def PySem.W.Fast.tw7065152684571967418 : Nat := 0
def PySem.W.Fast.tw713703028502070797 : Nat := 0
def PySem.W.Fast.tw7173422905685378826 : Nat := 0
def PySem.W.Fast.tw7758562529223152852 : Nat := 0
def PySem.W.Fast.tw8542571410842383787 : Nat := 0
def PySem.W.Fast.tw9123177081290793551 : Nat := 0
def PySem.W.Fast.tw9594663948940799231 : Nat := 0
def PySem.W.Fast.tw9726365336778258093 : Nat := 0
def PySem.W.Fast.tw9912627539793804143 : Nat := 0
set_option Elab.async false
set_option linter.all false
set_option maxRecDepth 100000
namespace L2
open PySem PySem.Spec PyProof.Rows

abbrev Key:=Sum Int Str
def keyIs:Key->Value->Bool
 | .inl k,v=>Value.isInt k v
 | .inr x,v=>Value.isStrOf x v
def keyH (w:World):Key->Int
 | .inl k=>hashInt k
 | .inr x=>hashStr w x
theorem keyIs_shape:∀ {k:Key} {v:Value},keyIs k v=true->(∃ i t,k=Sum.inl i/\v=Value.int i t)\/(∃ x t,k=Sum.inr x/\v=Value.str x t)
 | .inl i,v,h=>by
   obtain ⟨t,e⟩:=Value.isInt_shape (k:=i) (v:=v) h
   exact .inl ⟨i,t,rfl,e⟩
 | .inr x,v,h=>by
   obtain ⟨t,e⟩:=Value.isStrOf_shape (x:=x) (v:=v) h
   exact .inr ⟨x,t,rfl,e⟩
theorem keyIs_int (i:Int) (t:Tok):keyIs (.inl i) (.int i t)=true:=by simp [keyIs,Value.isInt]
theorem keyIs_str (x:Str) (t:Tok):keyIs (.inr x) (.str x t)=true:=by simp [keyIs,Value.isStrOf]
theorem key_ll (a b:Int):decide ((Sum.inl a:Key)=Sum.inl b)=(a == b):=by
 by_cases e:a=b
 · subst e;simp
 · have h:¬ (Sum.inl a:Key)=Sum.inl b:=λq=>e (Sum.inl.inj q)
   rw [decide_eq_false h]
   exact (beq_eq_false_iff_ne.mpr e).symm
theorem key_rr (a b:Str):decide ((Sum.inr a:Key)=Sum.inr b)=decide (a=b):=by
 by_cases e:a=b
 · subst e;simp
 · have h:¬ (Sum.inr a:Key)=Sum.inr b:=λq=>e (Sum.inr.inj q)
   rw [decide_eq_false h,decide_eq_false e]
theorem key_lr (a:Int) (b:Str):decide ((Sum.inl a:Key)=Sum.inr b)=false:=decide_eq_false (λq=>nomatch q)
theorem key_rl (a:Str) (b:Int):decide ((Sum.inr a:Key)=Sum.inl b)=false:=decide_eq_false (λq=>nomatch q)

def mixKind (prog:Program) (w:World):PySem.KeyKind prog w Key where
 is:=keyIs
 hash:=keyH w
 inj:=λv a b ha hb=>by
   rcases keyIs_shape ha with ⟨i,t,rfl,rfl⟩ | ⟨x,t,rfl,rfl⟩
   · rcases keyIs_shape hb with ⟨j,u,rfl,e⟩ | ⟨y,u,rfl,e⟩
     · injection e with e1 _;rw [e1]
     · exact nomatch e
   · rcases keyIs_shape hb with ⟨j,u,rfl,e⟩ | ⟨y,u,rfl,e⟩
     · exact nomatch e
     · injection e with e1 _;rw [e1]
 byValue:=λk v h=>by
   rcases keyIs_shape h with ⟨i,t,rfl,rfl⟩ | ⟨x,t,rfl,rfl⟩<;>rfl
 pyHash:=λhv h=>by
   rcases keyIs_shape hv with ⟨i,t,rfl,rfl⟩ | ⟨x,t,rfl,rfl⟩
   · exact wpAny_pyHash_int h
   · exact wpAny_pyHash_str h
 eqBool:=λhu hv h=>by
   rcases keyIs_shape hu with ⟨i,t,rfl,rfl⟩ | ⟨x,t,rfl,rfl⟩
   · rcases keyIs_shape hv with ⟨j,u,rfl,rfl⟩ | ⟨y,u,rfl,rfl⟩
     · rw [key_ll] at h;exact wpAny_eqBool_int h
     · rw [key_lr] at h;exact SeqAt.EqAt.int_str i t y u _ _ _ _ h
   · rcases keyIs_shape hv with ⟨j,u,rfl,rfl⟩ | ⟨y,u,rfl,rfl⟩
     · rw [key_rl] at h;exact SeqAt.EqAt.str_int x t j u _ _ _ _ h
     · rw [key_rr] at h;exact wpAny_eqBool_str h
 «strs»:=λk x t v h=>by
   rcases keyIs_shape h with ⟨i,u,rfl,e⟩ | ⟨y,u,rfl,e⟩
   · exact nomatch e
   · injection e with e1 _
     subst e1
     cases v<;>rfl

theorem mixKind_int (prog:Program) (w:World) (i:Int) (t:Tok):(mixKind prog w).is (.inl i) (.int i t)=true:=keyIs_int i t
theorem mixKind_str (prog:Program) (w:World) (x:Str) (t:Tok):(mixKind prog w).is (.inr x) (.str x t)=true:=keyIs_str x t
end L2

namespace L2
open PySem PySem.Spec PyProof.Rows

inductive V where
 | non | bl (b:Bool) | int (i:Int) | str (x:Str) | byt (b:Array UInt8) | flt (b:UInt64) | ref (a:Addr) | ty (n:String)
 deriving DecidableEq

def RelV:V->Value->Prop
 | .non,u=>u=Value.none
 | .bl b,u=>u=Value.bool b
 | .int i,u=>∃ t,u=Value.int i t
 | .str x,u=>∃ t,u=Value.str x t
 | .byt b,u=>∃ t,u=Value.bytes b t
 | .flt b,u=>∃ t,u=Value.float b t
 | .ref a,u=>u=Value.ref a
 | .ty n,u=>u=Value.type n

abbrev Vals:List V->List Value->Prop:=Paired RelV
theorem Vals.length {xs:List V} {us:List Value} (r:Vals xs us):xs.length=us.length:=Paired.length r
theorem Vals.get:∀ {xs:List V} {us:List Value} {i:Nat} {x:V},Vals xs us->xs[i]?=some x->∃ u,us[i]?=some u/\RelV x u
 | _,_,_,_,.nil,e=>by simp at e
 | _,_,0,_,.cons r _,e=>by simp at e;subst e;exact ⟨_,rfl,r⟩
 | _,_,i+1,x,.cons _ t,e=>by
   obtain ⟨u,h1,h2⟩:=Vals.get (i:=i) (x:=x) t (by simpa using e)
   exact ⟨u,by simpa using h1,h2⟩
theorem Vals.set {x:V} {u:Value} (r:RelV x u):∀ {xs:List V} {us:List Value} (i:Nat),Vals xs us->Vals (xs.set i x) (us.set i u)
 | _,_,_,.nil=>.nil
 | _,_,0,.cons _ t=>.cons r t
 | _,_,i+1,.cons q t=>.cons q (Vals.set r i t)
theorem Vals.append:∀ {xs ys:List V} {us ws:List Value},Vals xs us->Vals ys ws->Vals (xs++ys) (us++ws)
 | _,_,_,_,.nil,s=>s
 | _,_,_,_,.cons r t,s=>.cons r (Vals.append t s)
theorem Vals.take:∀ {xs:List V} {us:List Value} (n:Nat),Vals xs us->Vals (xs.take n) (us.take n)
 | _,_,0,_=>.nil
 | _,_,_+1,.nil=>.nil
 | _,_,n+1,.cons r t=>.cons r (Vals.take n t)
theorem Vals.drop:∀ {xs:List V} {us:List Value} (n:Nat),Vals xs us->Vals (xs.drop n) (us.drop n)
 | _,_,0,r=>r
 | _,_,_+1,.nil=>.nil
 | _,_,n+1,.cons _ t=>Vals.drop n t
theorem Vals.none_of:∀ {xs:List V} {us:List Value} {i:Nat},Vals xs us->xs[i]?=none->us[i]?=none:=λ{xs us i} r e=>by
 have h1:=r.length
 have h2:xs.length <= i:=List.getElem?_eq_none_iff.mp e
 exact List.getElem?_eq_none_iff.mpr (by omega)

def RelO:Option V->Option Value->Prop
 | some v,some u=>RelV v u
 | none,none=>True
 | _,_=>False
def KV {κ:Type}:List (κ × V)->List (κ × Value)->Prop:=Paired λ(p:κ × V) (q:κ × Value)=>p.1=q.1/\RelV p.2 q.2

def kV:Key->V
 | .inl i=>.int i
 | .inr x=>.str x

inductive HO where
 /-- a list -/
 | lst (xs:List V)
 /-- a tuple (never changes) -/
 | tup (xs:List V)
 /-- a dict whose keys are ints and texts;one whose keys are tuples of ints and texts (the empty one is both) -/
 | dK (kvs:List (Key × V)) | dT (kvs:List (List Key × V))
 /-- a set of ints: its members,its size -/
 | set (S:Int->Bool) (n:Nat)
 /-- an instance of the class at C,its dict at dx,its attributes -/
 | ins (C dx:Addr) (fs:List (Str × V))
 /-- the dict of the instance at x -/
 | own (x:Addr)
 /-- the dict of an exception -/
 | xd (fs:List (Str × V))
 /-- a bound method,f of x -/
 | met (f x:Addr)
 /-- a range object lo,lo+1,.. below hi -/
 | rng (lo hi:Int)
 /-- a thing that is known to the object (the script;a dict while a loop walks it): read,never written while it is so -/
 | frz (o:Obj) (u:HO)
 /-- a code object's table -/
 | tbl (ps:Array Value)
 /-- any other thing,by what is true of its one object (a def of one's own: SetO a S n:=HO.ext λh=>..) -/
 | ext (φ:Heap->Prop)

abbrev Hp:=Addr->Option HO
def upd (H:Hp) (a:Addr) (o:HO):Hp:=λb=>if b=a then some o else H b
theorem upd_same {H:Hp} {a:Addr} {o:HO}:upd H a o a=some o:=by unfold upd;rw [if_pos rfl]
theorem upd_ne {H:Hp} {a b:Addr} {o:HO} (h:b≠a):upd H a o b=H b:=by unfold upd;rw [if_neg h]
theorem upd_upd {H:Hp} {a:Addr} {o u:HO}:upd (upd H a o) a u=upd H a u:=by
 funext b;unfold upd;split<;>rfl
theorem ne_of {H:Hp} {a b:Addr} {o u:HO} (h:H a=some o) (h':H b=some u) (d:o≠u):a≠b:=by
 intro e;subst e;rw [h] at h';exact d (Option.some.inj h')
theorem ne_of_none {H:Hp} {a b:Addr} {o:HO} (h:H a=some o) (h':H b=none):a≠b:=by
 intro e;subst e;rw [h] at h';cases h'

section
variable (P:Program) (w:World)
def ObjOk (H:Hp) (h:Heap) (a:Addr):HO->Prop
 | .lst xs=>xs.length <= sizeLine/\∃ (its:List Value) (n:Nat),Vals xs its/\h.get? a=some { cls:=.type "list",data:=.seq its.toArray n }
 | .tup xs=>xs.length <= sizeLine/\∃ its:List Value,Vals xs its/\IsTup h a its.toArray
 | .dK kvs=>kvs.length <= sizeLine/\(a == sysModules)=false/\∃ vs,KV kvs vs/\h.DictOf (mixKind P w) a vs
 | .dT kvs=>kvs.length <= sizeLine/\(a == sysModules)=false/\∃ xs:List (List Key × Addr × Value),
     Paired (λ(p:List Key × V) (q:List Key × Addr × Value)=>p.1=q.1/\H q.2.1=some (.tup (p.1.map kV))/\RelV p.2 q.2.2) kvs xs /\
     ∃ o es ep,h.get? a=some o/\o.ExactDict/\o.data=.dict es ep/\es.toList=xs.map (entryOfKey (tupleKind (mixKind P w)))/\(xs.map (·.1)).Nodup
 | .set S n=>h.SetOf (intKind P w) a S n
 | .ins C dx fs=>H dx=some (.own a)/\fs.length <= 1000/\dx≠a/\h.get? a=some (PySem.W.instObj C dx) /\
     ∃ mA,h.Ns1 dx mA/\(∀ f,RelO (fs.lookup f) (mA f))/\PySem.Within mA (fs.map (·.1))
 | .own _=>∃ o,h.get? a=some o
 | .xd fs=>∃ mA,h.Ns1 a mA/\∀ f,RelO (fs.lookup f) (mA f)
 | .rng lo hi=>∃ t u v,h.get? a=some { cls:=.type "range",data:=.fields #[.int lo t,.int hi u,.int 1 v] }
 | .frz o u=>h.get? a=some o/\ObjOk H h a u
 | .tbl ps=>h.get? a=some { cls:=.none,data:=.fields ps }
 | .met f x=>h.get? a=some (PySem.W.methodObj (.ref f) (.ref x))
 | .ext φ=>φ h/\(∃ o,h.get? a=some o)/\∀ h1 h2:Heap,φ h1->(∀ o,h1.get? a=some o->h2.get? a=some o)->φ h2
def HOk (H:Hp) (h:Heap):Prop:=∀ a o,H a=some o->ObjOk P w H h a o
end

section
variable {P:Program} {w:World} {H H':Hp} {h h':Heap} {a:Addr} {o:HO}
theorem ObjOk.lt (x:ObjOk P w H h a o):a < h.objs.size:=by
 cases o with
 | lst xs=>obtain ⟨_,_,_,_,e⟩:=x;exact Heap.lt_size e
 | tup xs=>obtain ⟨_,_,_,p⟩:=x;exact p.lt
 | dK kvs=>obtain ⟨_,_,_,_,o,_,_,e,_⟩:=x;exact Heap.lt_size e
 | dT kvs=>obtain ⟨_,_,_,_,o,_,_,e,_⟩:=x;exact Heap.lt_size e
 | set S n=>obtain ⟨o,_,_,_,e,_⟩:=x;exact Heap.lt_size e
 | ins C dx fs=>obtain ⟨_,_,_,e,_⟩:=x;exact Heap.lt_size e
 | own y=>obtain ⟨_,e⟩:=x;exact Heap.lt_size e
 | xd fs=>obtain ⟨_,⟨_,_,_,e,_⟩,_⟩:=x;exact Heap.lt_size e
 | rng lo hi=>obtain ⟨_,_,_,e⟩:=x;exact Heap.lt_size e
 | frz ob u=>obtain ⟨e,_⟩:=x;exact Heap.lt_size e
 | tbl ps=>exact Heap.lt_size (show h.get? a=some _ from x)
 | met f y=>exact Heap.lt_size (show h.get? a=some _ from x)
 | ext φ=>obtain ⟨_,⟨_,e⟩,_⟩:=x;exact Heap.lt_size e
theorem Paired.mapP {α β:Type} {F G:α->β->Prop}:∀ {l₁:List α} {l₂:List β},Paired F l₁ l₂->(∀ a b,F a b->G a b)->Paired G l₁ l₂
 | _,_,.nil,_=>.nil
 | _,_,.cons r t,f=>.cons (f _ _ r) (Paired.mapP t f)
theorem ObjOk.stay (x:ObjOk P w H h a o) (k:∀ b u,(b=a\/H b=some (.own a))->h.get? b=some u->h'.get? b=some u)
   (ho:∀ b,H b=some (.own a)->H' b=some (.own a)) (ht:∀ b xs,H b=some (.tup xs)->H' b=some (.tup xs)):ObjOk P w H' h' a o:=by
 induction o with
 | lst xs=>obtain ⟨z,its,n,r,e⟩:=x;exact ⟨z,its,n,r,k _ _ (.inl rfl) e⟩
 | tup xs=>obtain ⟨z,its,r,ob,e,c⟩:=x;exact ⟨z,its,r,ob,k _ _ (.inl rfl) e,c⟩
 | dK kvs=>obtain ⟨z,y,vs,r,ob,es,ep,e,c⟩:=x;exact ⟨z,y,vs,r,ob,es,ep,k _ _ (.inl rfl) e,c⟩
 | dT kvs =>
   obtain ⟨z,y,xs,r,ob,es,ep,e,c⟩:=x
   exact ⟨z,y,xs,Paired.mapP r λp q z=>⟨z.1,ht _ _ z.2.1,z.2.2⟩,ob,es,ep,k _ _ (.inl rfl) e,c⟩
 | set S n=>obtain ⟨ob,es,ep,t,e,c⟩:=x;exact ⟨ob,es,ep,t,k _ _ (.inl rfl) e,c⟩
 | ins C dx fs =>
   obtain ⟨d,z,ne,e,mA,⟨od,es,ep,e2,c⟩,r⟩:=x
   exact ⟨ho _ d,z,ne,k _ _ (.inl rfl) e,mA,⟨od,es,ep,k _ _ (.inr d) e2,c⟩,r⟩
 | own y=>obtain ⟨ob,e⟩:=x;exact ⟨ob,k _ _ (.inl rfl) e⟩
 | xd fs=>obtain ⟨mA,⟨od,es,ep,e,c⟩,r⟩:=x;exact ⟨mA,⟨od,es,ep,k _ _ (.inl rfl) e,c⟩,r⟩
 | rng lo hi=>obtain ⟨t,u,v,e⟩:=x;exact ⟨t,u,v,k _ _ (.inl rfl) e⟩
 | frz ob u ih=>obtain ⟨e,q⟩:=x;exact ⟨k _ _ (.inl rfl) e,ih q⟩
 | tbl ps =>
   have e:h.get? a=some { cls:=.none,data:=.fields ps }:=x
   show h'.get? a=some { cls:=.none,data:=.fields ps }
   exact k a _ (.inl rfl) e
 | met f y =>
   have e:h.get? a=some (PySem.W.methodObj (.ref f) (.ref y)):=x
   show h'.get? a=some (PySem.W.methodObj (.ref f) (.ref y))
   exact k a _ (.inl rfl) e
 | ext φ=>obtain ⟨p,⟨o,e⟩,st⟩:=x;exact ⟨st _ _ p λo q=>k _ _ (.inl rfl) q,⟨o,k _ _ (.inl rfl) e⟩,st⟩
theorem HOk.lt (x:HOk P w H h) (e:H a=some o):a < h.objs.size:=(x a o e).lt
theorem HOk.fresh (x:HOk P w H h) (e:h.objs.size <= a):H a=none:=by
 cases q:H a with
 | none=>rfl
 | some u=>exact absurd (Nat.lt_of_lt_of_le (x.lt q) e) (Nat.lt_irrefl _)
theorem HOk.kept (x:HOk P w H h) (k:∀ b u,h.get? b=some u->h'.get? b=some u):HOk P w H h':=λa o e =>
 (x a o e).stay (λb u _ q=>k b u q) (λ_ q=>q) λ_ _ q=>q
theorem HOk.laid (x:HOk P w H h) (k:∀ b u,h.get? b=some u->h'.get? b=some u) (hp:h.objs.size <= a) (new:ObjOk P w (upd H a o) h' a o):HOk P w (upd H a o) h':=λb u e=>by
 have hn:=x.fresh hp
 by_cases hb:b=a
 · subst hb;rw [upd_same] at e;cases e;exact new
 · rw [upd_ne hb] at e
   exact (x b u e).stay (λc v _ q=>k c v q) (λc q=>by rw [upd_ne (ne_of_none q hn)];exact q) λc xs q=>by rw [upd_ne (ne_of_none q hn)];exact q
end

def Rd (H:Hp) (a:Addr) (u:HO):Prop:=H a=some u\/∃ o,H a=some (.frz o u)
theorem Rd.of {H:Hp} {a:Addr} {u:HO} (h:H a=some u):Rd H a u:=.inl h
theorem Rd.ok {P:Program} {w:World} {H:Hp} {h:Heap} {a:Addr} {u:HO} (r:Rd H a u) (x:HOk P w H h):ObjOk P w H h a u:=by
 rcases r with r | ⟨o,r⟩
 · exact x a u r
 · obtain ⟨_,q⟩:=x a _ r
   exact q
def Mut:Option HO->Prop
 | some (.lst _)=>True
 | some (.dK _)=>True
 | some (.dT _)=>True
 | some (.set _ _)=>True
 | some (.ins _ _ _)=>True
 | some (.ext _)=>True
 | _=>False
section
variable {P:Program} {w:World} {H:Hp} {h h':Heap} {x e:Addr} {o':HO}
theorem HOk.write (ok:HOk P w H h) (mu:Mut (H x)) (he:e=x\/H e=some (.own x)) (k:∀ b u,b≠e->h.get? b=some u->h'.get? b=some u) (heo:∃ u,h'.get? e=some u)
   (new:ObjOk P w (upd H x o') h' x o'):HOk P w (upd H x o') h':=λb u q=>by
 have nown:∀ c y,H c=some (.own y)->c≠x:=λc y r z=>by subst z;rw [r] at mu;exact mu
 have ntup:∀ c xs,H c=some (.tup xs)->c≠x:=λc xs r z=>by subst z;rw [r] at mu;exact mu
 by_cases hb:b=x
 · subst hb;rw [upd_same] at q;cases q;exact new
 · rw [upd_ne hb] at q
   by_cases hbe:b=e
   · have q':H b=some (.own x):=by
       rcases he with z | z
       · exact absurd (hbe.trans z) hb
       · rw [hbe];exact z
     rw [q] at q';cases q'
     obtain ⟨v,hv⟩:=heo
     exact ⟨v,by rw [hbe];exact hv⟩
   · refine (ok b u q).stay (λc v hc r=>k c v ?_ r) (λc r=>by rw [upd_ne (nown c b r)];exact r) λc xs r=>by rw [upd_ne (ntup c xs r)];exact r
     rcases hc with rfl | hc
     · exact hbe
     · rintro rfl
       rcases he with z | z
       · exact nown c b hc z
       · rw [hc] at z;cases z;exact hb rfl
end

structure Un (fs ex:List Addr) (H H':Hp) (h h':Heap):Prop where
 keep:∀ b o,h.get? b=some o->H b=none->b ∉ fs->b ∉ ex->h'.get? b=some o
 slot:∀ b o,h.get? b=some o->H b=none->b∈fs->b ∉ ex->∃ sl,h'.get? b=some { o with slots:=sl }
 free:∀ b o,h.get? b=some o->H b=none->b ∉ ex->H' b=none
 there:∀ b o,h.get? b=some o->b ∉ ex->∃ o',h'.get? b=some o'
 tups:∀ b xs,H b=some (.tup xs)->H' b=some (.tup xs)
 frzs:∀ b o u,H b=some (.frz o u)->H' b=some (.frz o u)
 tbls:∀ b ps,H b=some (.tbl ps)->∃ more,H' b=some (.tbl (ps++more))
section
variable {fs fs' ex ex':List Addr} {H H1 H2:Hp} {h h1 h2 h':Heap} {a x e:Addr} {o:HO}
theorem Un.any (u:Un fs ex H H1 h h1) {b:Addr} {ob:Obj} (q:h.get? b=some ob) (n:H b=none) (hx:b ∉ ex):∃ sl,h1.get? b=some { ob with slots:=sl }:=by
 by_cases hb:b∈fs
 · exact u.slot b ob q n hb hx
 · exact ⟨ob.slots,u.keep b ob q n hb hx⟩
theorem Un.trans (a:Un fs ex H H1 h h1) (b:Un fs ex H1 H2 h1 h2):Un fs ex H H2 h h2 where
 keep:=λc ob q n hc hx=>b.keep c ob (a.keep c ob q n hc hx) (a.free c ob q n hx) hc hx
 slot:=λc ob q n hc hx=>by
   obtain ⟨sl,e1⟩:=a.slot c ob q n hc hx
   obtain ⟨sl',e2⟩:=b.slot c _ e1 (a.free c ob q n hx) hc hx
   exact ⟨sl',e2⟩
 free:=λc ob q n hx=>by
   obtain ⟨o',e1⟩:=a.there c ob q hx
   exact b.free c o' e1 (a.free c ob q n hx) hx
 there:=λc ob q hx=>by
   obtain ⟨o',e1⟩:=a.there c ob q hx
   exact b.there c o' e1 hx
 tups:=λc xs q=>b.tups c xs (a.tups c xs q)
 frzs:=λc ob xs q=>b.frzs c ob xs (a.frzs c ob xs q)
 tbls:=λc ps q=>by
   obtain ⟨m1,e1⟩:=a.tbls c ps q
   obtain ⟨m2,e2⟩:=b.tbls c _ e1
   exact ⟨m1++m2,by rw [e2,Array.append_assoc]⟩
theorem Un.kept (k:∀ b u,h.get? b=some u->h'.get? b=some u):Un fs ex H H h h' :=
 ⟨λb ob q _ _ _=>k b ob q,λb ob q _ _ _=>⟨ob.slots,k b ob q⟩,λ_ _ _ n _=>n,λb ob q _=>⟨ob,k b ob q⟩,λ_ _ q=>q,λ_ _ _ q=>q,λ_ ps q=>⟨#[],by rw [q];simp⟩⟩
theorem Un.refl:Un fs ex H H h h:=Un.kept λ_ _ q=>q
theorem Un.laid (k:∀ b u,h.get? b=some u->h'.get? b=some u) (hp:h.objs.size <= a) (hn:H a=none):Un fs ex H (upd H a o) h h' where
 keep:=λb u q _ _ _=>k b u q
 slot:=λb u q _ _ _=>⟨u.slots,k b u q⟩
 free:=λb u q n _=>by rw [upd_ne (Nat.ne_of_lt (Nat.lt_of_lt_of_le (Heap.lt_size q) hp))];exact n
 there:=λb u q _=>⟨u,k b u q⟩
 tups:=λb xs q=>by rw [upd_ne (ne_of_none q hn)];exact q
 frzs:=λb u xs q=>by rw [upd_ne (ne_of_none q hn)];exact q
 tbls:=λb ps q=>⟨#[],by rw [upd_ne (ne_of_none q hn),q];simp⟩
theorem Un.write (mu:Mut (H x)) (he:e=x\/H e=some (.own x)) (k:∀ b u,b≠e->h.get? b=some u->h'.get? b=some u) (heo:∃ u,h'.get? e=some u):Un fs ex H (upd H x o) h h':=by
 have hx:∀ b,H b=none->b≠x:=λb n z=>by subst z;rw [n] at mu;exact mu
 have hb:∀ b,H b=none->b≠e:=λb n z=>by
   subst z
   rcases he with r | r
   · exact hx b n r
   · rw [n] at r;cases r
 have hm:∀ b u,H b=some u->¬ Mut (some u)->b≠x:=λb u q nm z=>by subst z;rw [q] at mu;exact nm mu
 refine ⟨λb u q n _ _=>k b u (hb b n) q,λb u q n _ _=>⟨u.slots,k b u (hb b n) q⟩,λb u q n _=>by rw [upd_ne (hx b n)];exact n,λb u q _=>?_,
   λb xs q=>by rw [upd_ne (hm b _ q λz=>z)];exact q,λb u xs q=>by rw [upd_ne (hm b _ q λz=>z)];exact q,λb ps q=>⟨#[],by rw [upd_ne (hm b _ q λz=>z),q];simp⟩⟩
 by_cases hbe:b=e
 · subst hbe;exact heo
 · exact ⟨u,k b u hbe q⟩
theorem Un.mono (u:Un fs ex H H1 h h1) (hs:∀ b∈fs,b∈fs') (hx:∀ b∈ex,b∈ex'):Un fs' ex' H H1 h h1 :=
 ⟨λb ob q n hb he=>u.keep b ob q n (λz=>hb (hs b z)) λz=>he (hx b z),λ_ _ q n _ he=>u.any q n λz=>he (hx _ z),λb ob q n he=>u.free b ob q n λz=>he (hx b z),λb ob q he=>u.there b ob q λz=>he (hx b z),u.tups,u.frzs,u.tbls⟩
end

def trk (h:Heap) (H:Hp):List Addr:=(List.range h.objs.size).filter λa=>(H a).isSome
def hidT (h:Heap) (H:Hp):Heap:=PySem.W.hideAll h (trk h H)
theorem hidT_size (h:Heap) (H:Hp):(hidT h H).objs.size=h.objs.size:=PySem.W.hideAll_size _ _
theorem hidT_get {h:Heap} {H:Hp} {b:Addr} {o:Obj} (e:h.get? b=some o) (n:H b=none):(hidT h H).get? b=some o :=
 PySem.W.hideAll_get _ e λhm=>by
   have q:(H b).isSome=true:=(List.mem_filter.mp hm).2
   rw [n] at q;simp at q
theorem of_hidT {h:Heap} {H:Hp} {b:Addr} {o:Obj} (e:(hidT h H).get? b=some o):h.get? b=some o/\H b=none:=by
 have e':h.get? b=some o:=PySem.W.of_hideAll (trk h H) e
 refine ⟨e',?_⟩
 cases q:H b with
 | none=>rfl
 | some x =>
   have hm:b∈trk h H:=List.mem_filter.mpr ⟨List.mem_range.mpr (Heap.lt_size e'),by simp [q]⟩
   have z:(hidT h H).get? b=none:=PySem.W.hideAll_none (trk h H) hm
   rw [z] at e;cases e

def allNews (g h:Heap) (L:Addr):List (Addr × Obj):=(List.range h.objs.size).filterMap λa=>if a=L\/(g.get? a).isSome=true then none else (h.get? a).map λo=>(a,o)
def rest (g h:Heap) (L d:Addr):List (Addr × Obj):=(allNews g h L).filter λp=>decide (p.1≠d)
end L2

namespace L2
open PySem PySem.Spec PyProof.Rows

structure Mod (K:PySem.W.Frag) (mg:Str->Option Value) (base:Heap):Prop where
 kin:K.In base
 glob:base.Ns mainGlobals mg
 blt:∃ mb,base.Ns builtinsNs mb/\∀ x:Str,x≠"__name__"->mb x=bootBuiltins x
 nolimit:base.NoLimit

structure Cx where
 prog:Program
 w:World
 K:PySem.W.Frag
 mg:Str->Option Value
 base:Heap
 A:Around
 N:List Str
 s₀:Shared
 H₀:Hp
 env:Env
 outer:List Env
 stack:List Env
 ex:List Addr
 fn:Str->Bool
 calm:Bool
 pn:List (Addr × Obj)
 xe:Value->Shared->Prop
def frs (l:List Env):List Addr:=l.filterMap (·.frame)
abbrev Cx.fs (X:Cx):List Addr:=frs X.outer

def Vis (sc:Scope) (x:Str):Prop:=sc.names.lookup x=some .local\/sc.names.lookup x=some .cell\/sc.names.lookup x=some .free
def Loc (sc:Scope) (x:Str):Prop:=sc.names.lookup x=some .local\/sc.names.lookup x=some .cell
def Look (env:Env) (h:Heap) (m:Str->Option Value) (x:Str) (u:Value):Prop :=
 (env.kindOf x=some .local/\m x=some u)\/((env.kindOf x=some .cell\/env.kindOf x=some .free)/\∃ c,env.cells.lookup x=some c/\h.IsCell c (some u))

structure Cx.Ok (X:Cx):Prop where
 mod:Mod X.K X.mg X.base
 kind:X.env.scope.kind=.function
 glob:X.env.globals=mainGlobals
 blt:X.env.builtins=builtinsNs
 above:X.s₀.heap.objs.size <= X.env.locals
 inj:∀ x y c,X.env.cells.lookup x=some c->X.env.cells.lookup y=some c->x=y
 has:∀ x,(X.env.kindOf x=some .cell\/X.env.kindOf x=some .free)->∃ c,X.env.cells.lookup x=some c
 cab:∀ x c,X.fn x=true->X.env.cells.lookup x=some c->X.s₀.heap.objs.size <= c
 hd:X.calm=true->X.A.handled=none
 frames:X.A.frames=some X.stack
 stk:X.stack=X.outer\/(X.stack=X.env :: X.outer/\X.env.frame=some X.env.locals)
 exf:∀ b∈X.ex,b≠X.env.locals/\∀ x c,X.env.cells.lookup x=some c->c≠b
 bs:∀ b o,X.base.get? b=some o->X.s₀.heap.get? b=some o/\X.H₀ b=none
 bsz:X.base.objs.size <= X.s₀.heap.objs.size
 noex:∀ b o,X.base.get? b=some o->b ∉ X.ex
 exfs:∀ b∈X.ex,b ∉ X.fs
 funs:X.s₀.heap.FunFrames X.base X.outer
 frf:∀ b∈X.fs,X.H₀ b=none

structure Inv (X:Cx) (pins:List (Addr × Obj)) (σ:List (Option V)) (H:Hp) (s:Shared):Prop where
 ok:X.Ok
 os:s.os=X.s₀.os
 bare:AllBare s.gens
 base:Un X.fs X.ex X.H₀ H X.s₀.heap s.heap
 loc:∃ m,s.heap.Ns X.env.locals m/\∀ (i:Nat) (x:Str) (v:V),X.N[i]?=some x->σ[i]?=some (some v)->Vis X.env.scope x->∃ u,RelV v u/\Look X.env s.heap m x u
 cell:∀ x c,X.env.cells.lookup x=some c->∃ v,s.heap.IsCell c v
 free:H X.env.locals=none
 freeC:∀ x c,X.env.cells.lookup x=some c->H c=none
 pin:∀ p∈X.pn++pins,s.heap.get? p.1=some p.2/\H p.1=none/\p.1≠X.env.locals/\p.1 ∉ X.fs/\∀ v,p.2.data≠.cell v
 hok:HOk X.prog X.w H s.heap
 len:σ.length=X.N.length

section
variable {X:Cx} {pins:List (Addr × Obj)} {σ:List (Option V)} {H H':Hp} {s:Shared} {h':Heap}

theorem Cx.Ok.nofr (ok:X.Ok) {b:Addr} {o:Obj} (e:X.base.get? b=some o):b ∉ X.fs:=λhb=>by
 have:=(ok.funs.mem hb).1
 rw [e] at this;cases this
theorem Inv.bs (I:Inv X pins σ H s):∀ b o,X.base.get? b=some o->s.heap.get? b=some o/\H b=none:=λb o e =>
 ⟨I.base.keep b o (I.ok.bs b o e).1 (I.ok.bs b o e).2 (I.ok.nofr e) (I.ok.noex b o e),I.base.free b o (I.ok.bs b o e).1 (I.ok.bs b o e).2 (I.ok.noex b o e)⟩
theorem Inv.bk (I:Inv X pins σ H s):∀ b o,X.base.get? b=some o->s.heap.get? b=some o:=λb o e=>(I.bs b o e).1
theorem Inv.mod (I:Inv X pins σ H s):Mod X.K X.mg X.base:=I.ok.mod
theorem Inv.kIn (I:Inv X pins σ H s):X.K.In s.heap:=I.ok.mod.kin.keeps I.bk
theorem Inv.nolimit (I:Inv X pins σ H s):s.heap.NoLimit:=I.ok.mod.nolimit.keeps I.bk
theorem Inv.fr (I:Inv X pins σ H s):∃ m,Fr X.base X.env.locals s.heap m :=
 let ⟨m,hn,_⟩:=I.loc
 ⟨m,hn,I.bk,Nat.le_trans I.ok.bsz I.ok.above⟩
theorem Inv.lt (I:Inv X pins σ H s):X.env.locals < s.heap.objs.size:=let ⟨_,hn,_⟩:=I.loc;hn.lt
theorem Inv.sz (I:Inv X pins σ H s):X.s₀.heap.objs.size <= s.heap.objs.size:=Nat.le_trans I.ok.above (Nat.le_of_lt I.lt)
theorem Inv.nofs (I:Inv X pins σ H s) {a:Addr} (h:s.heap.objs.size <= a):a ∉ X.fs:=λhb=>by
 obtain ⟨_,o,ho,_⟩:=I.ok.funs.mem hb
 exact absurd (Nat.lt_of_lt_of_le (Heap.lt_size ho) (Nat.le_trans I.sz h)) (Nat.lt_irrefl _)
theorem Inv.cne (I:Inv X pins σ H s):∀ x c,X.env.cells.lookup x=some c->c≠X.env.locals:=λx c e z=>by
 obtain ⟨v,o,ho,hd⟩:=I.cell x c e
 obtain ⟨m,⟨o',es,ep,ho',hd',_⟩,_⟩:=I.loc
 rw [z,ho'] at ho;cases ho;rw [hd'] at hd;cases hd
theorem Inv.funs (I:Inv X pins σ H s):s.heap.FunFrames X.base X.outer:=by
 have all:∀ (l:List Env),(∀ b∈frs l,b∈X.fs)->X.s₀.heap.FunFrames X.base l->s.heap.FunFrames X.base l:=by
   intro l
   induction l with
   | nil=>intro _ _;trivial
   | cons env r ih =>
     intro hs hl
     obtain ⟨hk,⟨L,o,hf,hn,ho,hd⟩,hr⟩:=hl
     have hL:L∈X.fs:=hs L (by unfold frs;rw [List.filterMap_cons,hf];exact List.mem_cons_self)
     obtain ⟨sl,e⟩:=I.base.slot L o ho (I.ok.frf L hL) hL λz=>I.ok.exfs L z hL
     exact ⟨hk,⟨L,_,hf,hn,e,hd⟩,ih (λb hb=>hs b (by unfold frs;rw [List.filterMap_cons,hf];exact List.mem_cons_of_mem _ hb)) hr⟩
 exact all X.outer (λ_ hb=>hb) I.ok.funs

theorem Inv.stack (I:Inv X pins σ H s):s.heap.FunFrames X.base X.stack:=by
 rcases I.ok.stk with e | ⟨e,hf⟩
 · rw [e];exact I.funs
 · rw [e]
   obtain ⟨m,hn,_⟩:=I.loc
   refine .cons (by rw [I.ok.kind];decide) hf hn ?_ I.funs
   exact Heap.get?_none_of_le (Nat.le_trans I.ok.bsz I.ok.above)
theorem Inv.stkSub (I:Inv X pins σ H s):∀ b∈frs X.stack,b∈X.env.locals :: X.fs:=λb hb=>by
 rcases I.ok.stk with e | ⟨e,hf⟩
 · rw [e] at hb;exact List.mem_cons_of_mem _ hb
 · rw [e] at hb
   unfold frs at hb
   rw [List.filterMap_cons,hf] at hb
   exact hb
theorem Inv.stkFree (I:Inv X pins σ H s):∀ b∈frs X.stack,H b=none:=λb hb=>by
 rcases List.mem_cons.mp (I.stkSub b hb) with e | hb
 · rw [e];exact I.free
 · obtain ⟨_,o,ho,_⟩:=I.ok.funs.mem hb
   exact I.base.free b o ho (I.ok.frf b hb) λz=>I.ok.exfs b z hb

theorem Inv.step {g':Array GenState} {t':Nat} {d':Drawn} {ch:List Addr} (I:Inv X pins σ H s)
   (hch:∀ b∈ch,(b∈X.ex\/X.s₀.heap.objs.size <= b)/\b≠X.env.locals/\(∀ x c,X.env.cells.lookup x=some c->c≠b)/\∀ p∈X.pn++pins,p.1≠b)
   (keep:∀ b o,b≠X.env.locals->b ∉ X.fs->b ∉ ch->s.heap.get? b=some o->H b=none->h'.get? b=some o)
   (slot:∀ b o,b≠X.env.locals->b∈X.fs->b ∉ ch->s.heap.get? b=some o->H b=none->∃ sl,h'.get? b=some { o with slots:=sl }) (free:∀ b o,b ∉ ch->s.heap.get? b=some o->H b=none->H' b=none)
   (there:∀ b o,b ∉ ch->s.heap.get? b=some o->∃ o',h'.get? b=some o')
   (tups:∀ b xs,H b=some (.tup xs)->H' b=some (.tup xs)) (frzs:∀ b o u,H b=some (.frz o u)->H' b=some (.frz o u)) (tbls:∀ b ps,H b=some (.tbl ps)->∃ more,H' b=some (.tbl (ps++more)))
   (ns:∀ m,s.heap.Ns X.env.locals m->h'.Ns X.env.locals m) (hok:HOk X.prog X.w H' h') (hg:AllBare g') :
   Inv X pins σ H' { s with heap:=h',gens:=g',drawn:=d',toks:=t' }:=by
 have neL:∀ b o,X.s₀.heap.get? b=some o->b≠X.env.locals:=λb o e=>Nat.ne_of_lt (Nat.lt_of_lt_of_le (Heap.lt_size e) I.ok.above)
 have neC:∀ b o,X.s₀.heap.get? b=some o->b ∉ X.ex->b ∉ ch:=λb o e hx hb=>by
   rcases (hch b hb).1 with z | z
   · exact hx z
   · exact absurd (Nat.lt_of_lt_of_le (Heap.lt_size e) z) (Nat.lt_irrefl _)
 have cellK:∀ x c,X.env.cells.lookup x=some c->∀ v,s.heap.IsCell c v->h'.IsCell c v:=λx c e v ⟨o,ho,hd⟩=>by
   have nch:c ∉ ch:=λz=>(hch c z).2.2.1 x c e rfl
   by_cases hc:c∈X.fs
   · obtain ⟨sl,q⟩:=slot c o (I.cne x c e) hc nch ho (I.freeC x c e)
     exact ⟨_,q,hd⟩
   · exact ⟨o,keep c o (I.cne x c e) hc nch ho (I.freeC x c e),hd⟩
 refine ⟨I.ok,I.os,hg,⟨λb o e n hb hx=>?_,λb o e n hb hx=>?_,λb o e n hx=>?_,λb o e hx=>?_,λb xs e=>tups b xs (I.base.tups b xs e),λb o xs e=>frzs b o xs (I.base.frzs b o xs e),λb ps e=>?_⟩,?_,λx c e=>?_,?_,λx c e=>?_,λp hp=>?_,hok,I.len⟩
 · exact keep b o (neL b o e) hb (neC b o e hx) (I.base.keep b o e n hb hx) (I.base.free b o e n hx)
 · obtain ⟨sl,e1⟩:=I.base.slot b o e n hb hx
   obtain ⟨sl',e2⟩:=slot b _ (neL b o e) hb (neC b o e hx) e1 (I.base.free b o e n hx)
   exact ⟨sl',e2⟩
 · obtain ⟨o',e1⟩:=I.base.there b o e hx
   exact free b o' (neC b o e hx) e1 (I.base.free b o e n hx)
 · obtain ⟨o',e1⟩:=I.base.there b o e hx
   exact there b o' (neC b o e hx) e1
 · obtain ⟨m1,e1⟩:=I.base.tbls b ps e
   obtain ⟨m2,e2⟩:=tbls b _ e1
   exact ⟨m1++m2,by rw [e2,Array.append_assoc]⟩
 · obtain ⟨m,hn,hl⟩:=I.loc
   refine ⟨m,ns m hn,λi x v e1 e2 e3=>?_⟩
   obtain ⟨u,r,l⟩:=hl i x v e1 e2 e3
   refine ⟨u,r,?_⟩
   rcases l with l | ⟨k,c,e,z⟩
   · exact .inl l
   · exact .inr ⟨k,c,e,cellK x c e _ z⟩
 · obtain ⟨v,z⟩:=I.cell x c e
   exact ⟨v,cellK x c e v z⟩
 · obtain ⟨m,⟨o,_,_,ho,_⟩,_⟩:=I.loc
   exact free _ o (λz=>(hch _ z).2.1 rfl) ho I.free
 · obtain ⟨v,o,ho,hd⟩:=I.cell x c e
   exact free c o (λz=>(hch c z).2.2.1 x c e rfl) ho (I.freeC x c e)
 · obtain ⟨e,n,ne,nf,d⟩:=I.pin p hp
   have nch:p.1 ∉ ch:=λz=>(hch p.1 z).2.2.2 p hp rfl
   exact ⟨keep p.1 p.2 ne nf nch e n,free p.1 p.2 nch e n,ne,nf,d⟩
theorem Inv.un {t':Nat} (I:Inv X pins σ H s) (u:Un X.fs [] H H' s.heap h') (hok:HOk X.prog X.w H' h'):Inv X pins σ H' { s with heap:=h',toks:=t' }:=by
 obtain ⟨m,⟨o,es,ep,ho,r⟩,_⟩:=id I.loc
 obtain ⟨sl,hL⟩:=u.any ho I.free (by simp)
 exact I.step (g':=s.gens) (d':=s.drawn) (ch:=[]) (λ_ z=>nomatch z) (λb o _ hb _ e n=>u.keep b o e n hb (by simp)) (λb o _ hb _ e n=>u.slot b o e n hb (by simp)) (λb o _ e n=>u.free b o e n (by simp)) (λb o _ e=>u.there b o e (by simp)) u.tups u.frzs u.tbls (λm' hm=>by
   obtain ⟨o',es',ep',ho',r'⟩:=hm
   rw [ho] at ho';cases ho'
   exact ⟨_,es',ep',hL,r'⟩) hok I.bare
theorem Inv.call {g':Array GenState} {t':Nat} {d':Drawn} {ch:List Addr} (I:Inv X pins σ H s) (u:Un (frs X.stack) ch H H' s.heap h') (hok:HOk X.prog X.w H' h') (hg:AllBare g')
   (hch:∀ b∈ch,(b∈X.ex\/X.s₀.heap.objs.size <= b)/\b≠X.env.locals/\(∀ x c,X.env.cells.lookup x=some c->c≠b)/\∀ p∈X.pn++pins,p.1≠b) :
   Inv X pins σ H' { s with heap:=h',gens:=g',drawn:=d',toks:=t' }:=by
 obtain ⟨m,⟨o,es,ep,ho,r⟩,_⟩:=id I.loc
 obtain ⟨sl,hL⟩:=u.any ho I.free λz=>(hch _ z).2.1 rfl
 exact I.step (ch:=ch) hch (λb o hL hb hc e n=>u.keep b o e n (λz=>(List.mem_cons.mp (I.stkSub b z)).elim hL hb) hc) (λb o _ _ hc e n=>u.any e n hc) (λb o hc e n=>u.free b o e n hc) (λb o hc e=>u.there b o e hc) u.tups u.frzs u.tbls (λm' hm=>by
   obtain ⟨o',es',ep',ho',r'⟩:=hm
   rw [ho] at ho';cases ho'
   exact ⟨_,es',ep',hL,r'⟩) hok hg
theorem Inv.turned {t':Nat} {it:Addr} (I:Inv X pins σ H s) (k:∀ b o,b≠it->s.heap.get? b=some o->h'.get? b=some o) (hn:H it=none) (hL:it≠X.env.locals)
   (h1:it∈X.ex\/X.s₀.heap.objs.size <= it) (h2:∀ x c,X.env.cells.lookup x=some c->c≠it) (h3:∀ p∈X.pn++pins,p.1≠it):Inv X pins σ H { s with heap:=h',toks:=t' }:=by
 have nit:∀ b u,H b=some u->b≠it:=λb u e z=>by rw [z,hn] at e;cases e
 refine I.step (g':=s.gens) (d':=s.drawn) (ch:=[it]) (λb hb=>?_) (λb o _ _ hc e _=>k b o (λz=>hc (by simp [z])) e) (λb o _ _ hc e _=>⟨o.slots,k b o (λz=>hc (by simp [z])) e⟩) (λ_ _ _ _ n=>n)
   (λb o hc e=>⟨o,k b o (λz=>hc (by simp [z])) e⟩) (λ_ _ e=>e) (λ_ _ _ e=>e) (λb ps e=>⟨#[],by rw [e];simp⟩) (λm hm=>?_) (λb u e=>?_) I.bare
 · have e:b=it:=by simpa using hb
   subst e
   exact ⟨h1,hL,h2,h3⟩
 · obtain ⟨o,es,ep,ho,r⟩:=hm
   exact ⟨o,es,ep,k _ o (Ne.symm hL) ho,r⟩
 · refine (I.hok b u e).stay (λc v hc q=>k c v ?_ q) (λ_ q=>q) λ_ _ q=>q
   rcases hc with z | z
   · rw [z];exact nit b u e
   · exact nit c _ z
theorem Inv.tok (I:Inv X pins σ H s) (t:Nat):Inv X pins σ H { s with toks:=t }:=I.un (h':=s.heap) (t':=t) Un.refl I.hok
theorem Inv.kept {t':Nat} (I:Inv X pins σ H s) (k:∀ b u,s.heap.get? b=some u->h'.get? b=some u):Inv X pins σ H { s with heap:=h',toks:=t' }:=I.un (Un.kept k) (I.hok.kept k)
theorem Inv.laid {a:Addr} {o:HO} {t':Nat} (I:Inv X pins σ H s) (k:∀ b u,s.heap.get? b=some u->h'.get? b=some u) (hp:s.heap.objs.size <= a) (new:ObjOk X.prog X.w (upd H a o) h' a o) :
   Inv X pins σ (upd H a o) { s with heap:=h',toks:=t' }:=I.un (Un.laid k hp (I.hok.fresh hp)) (I.hok.laid k hp new)
theorem Inv.write {x e:Addr} {o:HO} {t':Nat} (I:Inv X pins σ H s) (mu:Mut (H x)) (he:e=x\/H e=some (.own x)) (k:∀ b u,b≠e->s.heap.get? b=some u->h'.get? b=some u) (heo:∃ u,h'.get? e=some u)
   (new:ObjOk X.prog X.w (upd H x o) h' x o):Inv X pins σ (upd H x o) { s with heap:=h',toks:=t' }:=I.un (Un.write mu he k heo) (I.hok.write mu he k heo new)
theorem Inv.pins_of {pins':List (Addr × Obj)} (I:Inv X pins σ H s) (h:∀ p∈pins',s.heap.get? p.1=some p.2/\H p.1=none/\p.1≠X.env.locals/\p.1 ∉ X.fs/\∀ v,p.2.data≠.cell v):Inv X pins' σ H s :=
 ⟨I.ok,I.os,I.bare,I.base,I.loc,I.cell,I.free,I.freeC,λp hp=>(List.mem_append.mp hp).elim (λz=>I.pin p (List.mem_append_left _ z)) (h p),I.hok,I.len⟩

theorem nodup_ix {N:List Str} (hN:N.Nodup) {i j:Nat} {x:Str} (a:N[i]?=some x) (b:N[j]?=some x):i=j:=by
 obtain ⟨h1,e1⟩:=List.getElem?_eq_some_iff.mp a
 obtain ⟨h2,e2⟩:=List.getElem?_eq_some_iff.mp b
 exact (List.getElem_inj hN).mp (e1.trans e2.symm)

theorem store_ok2 {M:Model} {A:Around} {E:Value->Shared->Prop} {i:Nat} {x:Str} {v:V} {u:Value} {Q:Unit->Shared->Prop} (I:Inv X pins σ H s) (hN:X.N.Nodup) (hi:X.N[i]?=some x) (hx:Loc X.env.scope x) (r:RelV v u)
   (h:∀ s',Inv X pins (σ.set i (some v)) H s'->(∃ a,Heap.SameBut a s.heap s'.heap/\(a=X.env.locals\/X.env.cells.lookup x=some a))->Q () s') (hf:X.fn x=true\/X.env.scope.names.lookup x=some .local:=by first | exact .inl rfl | exact .inr rfl | assumption):wpAny M A (storeName X.env x u) Q E s:=by
 obtain ⟨m,hn,hl⟩:=id I.loc
 have hcls:(X.env.scope.kind == .class || (X.env.scope.kind == .module && X.env.locals != X.env.globals))=false:=by rw [I.ok.kind];rfl
 have hiσ:i < σ.length:=by rw [I.len];exact (List.getElem?_eq_some_iff.mp hi).1
 have cne:=I.cne
 have tracked:∀ {a:Addr} {h':Heap},(∃ o,s.heap.get? a=some o/\H a=none)->Heap.SameBut a s.heap h'->HOk X.prog X.w H h':=λ{a h'} ha hs b ob e=>by
   obtain ⟨_,_,hfree⟩:=ha
   refine (I.hok b ob e).stay (λc w' hc q=>(hs.2 c ?_).trans q) (λ_ q=>q) λ_ _ q=>q
   rintro rfl
   rcases hc with rfl | hc
   · rw [hfree] at e;cases e
   · rw [hfree] at hc;cases hc
 rcases hx with hk | hk
 · refine wpAny_storeName_local hk hn (λh' hn' hs=>?_) hcls
   obtain ⟨oL,_,_,hoL,_⟩:=id hn
   refine h _ ⟨I.ok,I.os,I.bare,⟨λb o e n hb hx=>?_,λb o e n hb hx=>?_,I.base.free,λb o e hx=>?_,I.base.tups,I.base.frzs,I.base.tbls⟩,⟨_,hn',λj y v' e1 e2 e3=>?_⟩,λy c e=>?_,I.free,I.freeC,λp hp=>?_,tracked ⟨oL,hoL,I.free⟩ hs,by simpa using I.len⟩ ⟨_,hs,.inl rfl⟩
   · exact (hs.2 b (Nat.ne_of_lt (Nat.lt_of_lt_of_le (Heap.lt_size e) I.ok.above))).trans (I.base.keep b o e n hb hx)
   · obtain ⟨sl,e1⟩:=I.base.slot b o e n hb hx
     exact ⟨sl,(hs.2 b (Nat.ne_of_lt (Nat.lt_of_lt_of_le (Heap.lt_size e) I.ok.above))).trans e1⟩
   · obtain ⟨o',e1⟩:=I.base.there b o e hx
     exact ⟨o',(hs.2 b (Nat.ne_of_lt (Nat.lt_of_lt_of_le (Heap.lt_size e) I.ok.above))).trans e1⟩
   · by_cases hj:j=i
     · subst hj
       rw [hi] at e1;cases e1
       rw [List.getElem?_set_self hiσ] at e2
       cases e2
       exact ⟨u,r,.inl ⟨hk,by simp⟩⟩
     · rw [List.getElem?_set_ne (Ne.symm hj)] at e2
       obtain ⟨u',r',q⟩:=hl j y v' e1 e2 e3
       refine ⟨u',r',?_⟩
       rcases q with ⟨k,e⟩ | ⟨k,c,e,z⟩
       · refine .inl ⟨k,?_⟩
         have:y≠x:=λe=>hj (nodup_ix hN e1 (e ▸ hi))
         simp [this,e]
       · exact .inr ⟨k,c,e,z.sameBut hs (cne y c e)⟩
   · obtain ⟨w',z⟩:=I.cell y c e
     exact ⟨w',z.sameBut hs (cne y c e)⟩
   · obtain ⟨e,n,ne,nf,d⟩:=I.pin p hp
     exact ⟨(hs.2 p.1 ne).trans e,n,ne,nf,d⟩
 · have hfn:X.fn x=true:=by
     rcases hf with z | z
     · exact z
     · rw [z] at hk;cases hk
   obtain ⟨c,hc⟩:=I.ok.has x (.inl hk)
   obtain ⟨w',z⟩:=I.cell x c hc
   refine wpAny_storeName_cell I.ok.kind hk hc z (λh' hc' hs=>?_)
   obtain ⟨oc,hoc,hocd⟩:=id z
   refine h { s with heap:=h' } ⟨I.ok,I.os,I.bare,⟨λb o e n hb hx=>?_,λb o e n hb hx=>?_,I.base.free,λb o e hx=>?_,I.base.tups,I.base.frzs,I.base.tbls⟩,⟨m,hn.sameBut hs (Ne.symm (cne x c hc)),λj y v' e1 e2 e3=>?_⟩,λy c' e=>?_,I.free,I.freeC,λp hp=>?_,tracked ⟨oc,hoc,I.freeC x c hc⟩ hs,by simpa using I.len⟩ ⟨c,hs,.inr hc⟩
   · exact (hs.2 b (Nat.ne_of_lt (Nat.lt_of_lt_of_le (Heap.lt_size e) (I.ok.cab x c hfn hc)))).trans (I.base.keep b o e n hb hx)
   · obtain ⟨sl,e1⟩:=I.base.slot b o e n hb hx
     exact ⟨sl,(hs.2 b (Nat.ne_of_lt (Nat.lt_of_lt_of_le (Heap.lt_size e) (I.ok.cab x c hfn hc)))).trans e1⟩
   · obtain ⟨o',e1⟩:=I.base.there b o e hx
     exact ⟨o',(hs.2 b (Nat.ne_of_lt (Nat.lt_of_lt_of_le (Heap.lt_size e) (I.ok.cab x c hfn hc)))).trans e1⟩
   · by_cases hj:j=i
     · subst hj
       rw [hi] at e1;cases e1
       rw [List.getElem?_set_self hiσ] at e2
       cases e2
       exact ⟨u,r,.inr ⟨.inl hk,c,hc,hc'⟩⟩
     · rw [List.getElem?_set_ne (Ne.symm hj)] at e2
       obtain ⟨u',r',q⟩:=hl j y v' e1 e2 e3
       refine ⟨u',r',?_⟩
       rcases q with q | ⟨k,c',e,z'⟩
       · exact .inl q
       · refine .inr ⟨k,c',e,z'.sameBut hs ?_⟩
         rintro rfl
         exact hj (nodup_ix hN e1 (I.ok.inj _ _ _ e hc ▸ hi))
   · by_cases hcc:c'=c
     · subst hcc;exact ⟨_,hc'⟩
     · obtain ⟨w2,z2⟩:=I.cell y c' e
       exact ⟨w2,z2.sameBut hs hcc⟩
   · obtain ⟨e,n,ne,nf,d⟩:=I.pin p hp
     refine ⟨(hs.2 p.1 ?_).trans e,n,ne,nf,d⟩
     intro q
     rw [q,hoc] at e
     have q':oc=p.2:=Option.some.inj e
     exact d w' (by rw [← q'];exact hocd)
theorem store_ok {M:Model} {A:Around} {E:Value->Shared->Prop} {i:Nat} {x:Str} {v:V} {u:Value} {Q:Unit->Shared->Prop} (I:Inv X pins σ H s) (hN:X.N.Nodup) (hi:X.N[i]?=some x) (hx:Loc X.env.scope x) (r:RelV v u)
   (h:∀ s',Inv X pins (σ.set i (some v)) H s'->Q () s') (hf:X.fn x=true\/X.env.scope.names.lookup x=some .local:=by first | exact .inl rfl | exact .inr rfl | assumption):wpAny M A (storeName X.env x u) Q E s :=
 store_ok2 I hN hi hx r (λs' I' _=>h s' I') hf
theorem Inv.call' {s':Shared} {ch:List Addr} (I:Inv X pins σ H s) (ho:s'.os=s.os) (u:Un (frs X.stack) ch H H' s.heap s'.heap) (hok:HOk X.prog X.w H' s'.heap) (hg:AllBare s'.gens)
   (hch:∀ b∈ch,(b∈X.ex\/X.s₀.heap.objs.size <= b)/\b≠X.env.locals/\(∀ x c,X.env.cells.lookup x=some c->c≠b)/\∀ p∈X.pn++pins,p.1≠b):Inv X pins σ H' s':=by
 obtain ⟨h',g',d',t',o'⟩:=s'
 have e:o'=s.os:=ho
 subst e
 exact I.call (g':=g') (t':=t') (d':=d') u hok hg hch
end

abbrev XK:=Value->Option Addr->Hp->Prop
abbrev St:=List (Option V)
abbrev VK:=V->Hp->Prop
abbrev TE:=St->Hp->VK->Prop
abbrev TT:=St->Hp->(Bool->Hp->Prop)->Prop
abbrev TA:=St->Hp->(List V->Hp->Prop)->Prop
structure Ends where
 nx:St->Hp->Prop
 rt:VK
 bk:St->Hp->Prop:=λ_ _=>False
 ct:St->Hp->Prop:=λ_ _=>False
abbrev TS:=Ends->St->Hp->Prop

def EP (X:Cx) (pins:List (Addr × Obj)) (σ:St) (Q:VK) (u:Value) (s':Shared):Prop:=∃ v H',Inv X pins σ H' s'/\RelV v u/\Q v H'
def TP (X:Cx) (pins:List (Addr × Obj)) (σ:St) (Q:Bool->Hp->Prop) (b:Bool) (s':Shared):Prop:=∃ H',Inv X pins σ H' s'/\Q b H'
def AP (X:Cx) (pins:List (Addr × Obj)) (σ:St) (Q:List V->Hp->Prop) (us:List Value) (s':Shared):Prop:=∃ vs H',Inv X pins σ H' s'/\Vals vs us/\Q vs H'
def SP (X:Cx) (pins:List (Addr × Obj)) (D:Ends) (f:Flow) (s':Shared):Prop :=
 match f with
 | .next=>∃ σ' H',Inv X pins σ' H' s'/\D.nx σ' H'
 | .brk=>∃ σ' H',Inv X pins σ' H' s'/\D.bk σ' H'
 | .cont=>∃ σ' H',Inv X pins σ' H' s'/\D.ct σ' H'
 | .ret u=>∃ v σ' H',Inv X pins σ' H' s'/\RelV v u/\D.rt v H'

def PE (X:Cx) (e:Expr) (t:TE):Prop :=
 ∀ (pins:List (Addr × Obj)) (s:Shared) (σ:St) (H:Hp) (Q:VK),Inv X pins σ H s->t σ H Q->wpAny (model X.prog X.w) X.A (eval e X.env) (EP X pins σ Q) X.xe s
def PT (X:Cx) (e:Expr) (t:TT):Prop :=
 ∀ (pins:List (Addr × Obj)) (s:Shared) (σ:St) (H:Hp) (Q:Bool->Hp->Prop),Inv X pins σ H s->t σ H Q->wpAny (model X.prog X.w) X.A (isTrue e X.env (eval e X.env)) (TP X pins σ Q) X.xe s
def PW (X:Cx) (e:Expr) (t:TT):Prop :=
 ∀ (whole:Sem Value) (pins:List (Addr × Obj)) (s:Shared) (σ:St) (H:Hp) (Q:Bool->Hp->Prop),Inv X pins σ H s->t σ H Q->wpAny (model X.prog X.w) X.A (isTrue e X.env whole) (TP X pins σ Q) X.xe s
theorem PW.pt {X:Cx} {e:Expr} {t:TT} (h:PW X e t):PT X e t:=h _
def PA (X:Cx) (es:List Expr) (t:TA):Prop :=
 ∀ (pos:Pos) (pins:List (Addr × Obj)) (s:Shared) (σ:St) (H:Hp) (Q:List V->Hp->Prop),Inv X pins σ H s->t σ H Q->wpAny (model X.prog X.w) X.A (spliced (backTo pos (starEach es X.env))) (AP X pins σ Q) X.xe s
def PS (X:Cx) (st:Stmt) (t:TS):Prop :=
 ∀ (pins:List (Addr × Obj)) (s:Shared) (σ:St) (H:Hp) (D:Ends),Inv X pins σ H s->t D σ H->wpAny (model X.prog X.w) X.A (exec st X.env) (SP X pins D) X.xe s
def PSs (X:Cx) (st:List Stmt) (t:TS):Prop :=
 ∀ (pins:List (Addr × Obj)) (s:Shared) (σ:St) (H:Hp) (D:Ends),Inv X pins σ H s->t D σ H->wpAny (model X.prog X.w) X.A (execs st X.env) (SP X pins D) X.xe s
theorem thn {α:Type} {t:Sem α} {Q Q':α->Shared->Prop} {M:Model} {A:Around} {E:Value->Shared->Prop} {s:Shared} (h:wpAny M A t Q E s) (hQ:∀ a s,Q a s->Q' a s):wpAny M A t Q' E s:=wpAny_mono h hQ λ_ _ x=>x
end L2

namespace L2
open PySem PySem.Spec PyProof.Rows
section
variable {X:Cx}

def tVar (i:Nat):TE:=λσ H Q=>∃ v,σ[i]?=some (some v)/\Q v H
def tC (v:V):TE:=λ_ H Q=>Q v H
theorem pe_var {i:Nat} {x:Str} {pos:Pos} (hN:X.N[i]?=some x) (hv:Vis X.env.scope x) (hd:(x == ("__debug__":Str))=false:=by decide) (hcd:(x == ("__classdict__":Str))=false:=by decide):PE X (.Name x pos) (tVar i):=by
 intro pins s σ H Q I h
 obtain ⟨v,e,h⟩:=h
 obtain ⟨m,hn,hl⟩:=I.loc
 obtain ⟨u,r,l⟩:=hl i x v hN e hv
 have fin:EP X pins σ Q u s:=⟨v,H,I,r,h⟩
 rcases l with ⟨hk,hm⟩ | ⟨hk,c,hc,hcell⟩
 · exact wpAny_Name (wpAny_loadName_local I.ok.kind hk hn hm fin) hd
 · rcases hk with hk | hk
   · exact wpAny_Name (wpAny_loadName_cell I.ok.kind hk hc hcell fin) hd
   · exact wpAny_Name (wpAny_loadName_free I.ok.kind hk hc hcell fin hcd) hd
theorem pe_int {i j pos}:PE X (.Constant (.int i) j pos) (tC (.int i)):=λ_ _ _ H _ I h=>wpAny_Constant_int ⟨.int i,H,I.tok _,⟨_,rfl⟩,h⟩
theorem pe_bl {b j pos}:PE X (.Constant (.bool b) j pos) (tC (.bl b)):=λ_ _ _ H _ I h=>Constant_bool ⟨.bl b,H,I,rfl,h⟩
theorem pe_non {j pos}:PE X (.Constant .none j pos) (tC .non):=λ_ _ _ H _ I h=>Constant_none ⟨.non,H,I,rfl,h⟩
theorem pe_str {x j pos}:PE X (.Constant (.str x) j pos) (tC (.str x)):=λ_ _ _ H _ I h=>Calls.Constant_str ⟨.str x,H,I.tok _,⟨_,rfl⟩,h⟩

def Gl (X:Cx) (x:Str):Prop:=X.env.kindOf x=some .globalImplicit
theorem ld_glob {E:Value->Shared->Prop} {pins:List (Addr × Obj)} {s:Shared} {σ:St} {H:Hp} {x:Str} {u:Value} {pos:Pos} {Q:Value->Shared->Prop} (I:Inv X pins σ H s) (hg:Gl X x) (hm:X.mg x=some u) (h:Q u s)
   (hd:(x == ("__debug__":Str))=false:=by decide):wpAny (model X.prog X.w) X.A (eval (.Name x pos) X.env) Q E s :=
 Calls.Name_function_global I.ok.kind hg (Calls.loadGlobal_global (by rw [I.ok.glob];exact I.mod.glob.keeps I.bk) hm h) hd
theorem ld_blt {E:Value->Shared->Prop} {pins:List (Addr × Obj)} {s:Shared} {σ:St} {H:Hp} {x:Str} {u:Value} {pos:Pos} {Q:Value->Shared->Prop} (I:Inv X pins σ H s) (hg:Gl X x) (hm:X.mg x=none) (hv:bootBuiltins x=some u) (h:Q u s)
   (hn:x≠"__name__":=by decide) (hd:(x == ("__debug__":Str))=false:=by decide):wpAny (model X.prog X.w) X.A (eval (.Name x pos) X.env) Q E s:=by
 obtain ⟨mb,h1,h2⟩:=I.mod.blt
 exact Calls.Name_function_global I.ok.kind hg (Calls.loadGlobal_builtin (by rw [I.ok.glob];exact I.mod.glob.keeps I.bk) hm (by rw [I.ok.blt];exact h1.keeps I.bk) ((h2 x hn).trans hv) h) hd
theorem pe_glob {x:Str} {v:V} {u:Value} {pos:Pos} (hg:Gl X x) (hm:X.mg x=some u) (r:RelV v u) (hd:(x == ("__debug__":Str))=false:=by decide):PE X (.Name x pos) (tC v) :=
 λ_ _ _ H _ I h=>ld_glob I hg hm ⟨v,H,I,r,h⟩ hd
theorem pe_bltn {x:Str} {v:V} {u:Value} {pos:Pos} (hg:Gl X x) (hm:X.mg x=none) (hv:bootBuiltins x=some u) (r:RelV v u) (hn:x≠"__name__":=by decide) (hd:(x == ("__debug__":Str))=false:=by decide):PE X (.Name x pos) (tC v) :=
 λ_ _ _ H _ I h=>ld_blt I hg hm hv ⟨v,H,I,r,h⟩ hn hd

def t2I (ta tb:TE) (k:Int->Int->Hp->Prop):St->Hp->Prop:=λσ H=>ta σ H λx H1=>tb σ H1 λy H2=>∃ i j,x=.int i/\y=.int j/\k i j H2
def tAdd (ta tb:TE):TE:=λσ H Q=>t2I ta tb (λi j H2=>Q (.int (i+j)) H2) σ H
def tSub (ta tb:TE):TE:=λσ H Q=>t2I ta tb (λi j H2=>Q (.int (i - j)) H2) σ H
def tMul (ta tb:TE):TE:=λσ H Q=>t2I ta tb (λi j H2=>(-(2 ^ 64) < i/\i < 2 ^ 64)/\Q (.int (i * j)) H2) σ H
variable {a b:Expr} {ta tb:TE} {pos:Pos}
def PC (X:Cx) (op:CmpOp) (a b:Expr) (t:TE):Prop :=
 ∀ (pins:List (Addr × Obj)) (s:Shared) (σ:St) (H:Hp) (Q:VK),Inv X pins σ H s->t σ H Q ->
   wpAny (model X.prog X.w) X.A (eval a X.env) (λv s₁=>wpAny (model X.prog X.w) X.A (eval b X.env) (λu s₂=>wpAny (model X.prog X.w) X.A (compareOp op v u) (EP X pins σ Q) X.xe s₂) X.xe s₁) X.xe s
theorem nobehind (b:Expr) {op:CmpOp} (h:op≠.In) (h2:op≠.NotIn):behindInMarks op b=false:=by
 have e1:(op == CmpOp.In)=false:=by cases op<;>first | rfl | exact absurd rfl h
 have e2:(op == CmpOp.NotIn)=false:=by cases op<;>first | rfl | exact absurd rfl h2
 cases b<;>simp [behindInMarks,e1,e2]
def tCmp (p:Int->Int->Bool) (ta tb:TE):TE:=λσ H Q=>t2I ta tb (λi j H2=>Q (.bl (p i j)) H2) σ H
abbrev tLt:TE->TE->TE:=tCmp λi j=>decide (i < j)
abbrev tLe:TE->TE->TE:=tCmp λi j=>decide (i <= j)
abbrev tGt:TE->TE->TE:=tCmp λi j=>decide (j < i)
abbrev tGe:TE->TE->TE:=tCmp λi j=>decide (j <= i)
abbrev tEqI:TE->TE->TE:=tCmp λi j=>decide (i=j)
abbrev tNeI:TE->TE->TE:=tCmp λi j=>!decide (i=j)
def tIsN (ta:TE):TE:=λσ H Q=>ta σ H λx H1=>Q (.bl (decide (x=.non))) H1
def tNotN (ta:TE):TE:=λσ H Q=>ta σ H λx H1=>Q (.bl (!decide (x=.non))) H1
def tB (t:TE):TT:=λσ H Q=>t σ H λx H1=>∃ c,x=.bl c/\Q c H1
theorem pt_cmp {op:CmpOp} {t:TE} (h:PC X op a b t) (h1:behindInMarks op b=false:=by first | exact nobehind _ (by decide) (by decide) | rfl):PT X (.Compare a [op] [b] pos) (tB t):=by
 intro pins s σ H Q I hw
 refine wpAny_isTrue_Compare1 (thn (h pins s σ H _ I hw) λv s1 h1=>thn h1 λu s2 h2=>thn h2 λc s3 ⟨x,H1,I1,r1,q1⟩=>?_) h1
 obtain ⟨d,rfl,q⟩:=q1
 cases r1
 exact wpAny_truthy_bool ⟨H1,I1,q⟩
theorem pt_val {e:Expr} {t:TE} (h:PE X e t) (he:∀ whole,isTrue e X.env whole=(do let v ← whole;standAt e.pos;holding [v] (truthy v)):=by intro _;rfl):PT X e (tB t):=by
 intro pins s σ H Q I hw
 refine isTrue_plain (thn (h pins s σ H _ I hw) λv s1 ⟨x,H1,I1,r1,q1⟩=>?_) (he _)
 obtain ⟨d,rfl,q⟩:=q1
 cases r1
 exact wpAny_truthy_bool ⟨H1,I1,q⟩

variable {tA tB':TT} {rest:List Expr}
def tAnd (t u:TT):TT:=λσ H Q=>t σ H λc H1=>if c=true then u σ H1 Q else Q false H1
def tOr (t u:TT):TT:=λσ H Q=>t σ H λc H1=>if c=true then Q true H1 else u σ H1 Q
def tNot (t:TT):TT:=λσ H Q=>t σ H λc H1=>Q (!c) H1
theorem pw_and1 (ha:PT X a tA):PW X (.BoolOp .And [a] pos) tA:=by
 intro wh pins s σ H Q I h
 refine isTrue_and (thn (ha pins s σ H Q I h) λc s1 e=>?_)
 cases c with
 | true=>exact isTrue_and_nil e
 | false=>exact e
theorem pw_or1 (ha:PT X a tA):PW X (.BoolOp .Or [a] pos) tA:=by
 intro wh pins s σ H Q I h
 refine isTrue_or (thn (ha pins s σ H Q I h) λc s1 e=>?_)
 cases c with
 | false=>exact isTrue_or_nil e
 | true=>exact e
theorem pw_and (ha:PT X a tA) (hb:PW X (.BoolOp .And (b :: rest) pos) tB'):PW X (.BoolOp .And (a :: b :: rest) pos) (tAnd tA tB'):=by
 intro wh pins s σ H Q I h
 refine isTrue_and (thn (ha pins s σ H _ I h) λc s1 ⟨H1,I1,q1⟩=>?_)
 cases c with
 | true=>exact hb wh pins s1 σ H1 Q I1 q1
 | false=>exact ⟨H1,I1,q1⟩
theorem pw_or (ha:PT X a tA) (hb:PW X (.BoolOp .Or (b :: rest) pos) tB'):PW X (.BoolOp .Or (a :: b :: rest) pos) (tOr tA tB'):=by
 intro wh pins s σ H Q I h
 refine isTrue_or (thn (ha pins s σ H _ I h) λc s1 ⟨H1,I1,q1⟩=>?_)
 cases c with
 | true=>exact ⟨H1,I1,q1⟩
 | false=>exact hb wh pins s1 σ H1 Q I1 q1
theorem pt_not (ha:PT X a tA):PT X (.UnaryOp .Not a pos) (tNot tA):=by
 intro pins s σ H Q I h
 exact isTrue_not (ha pins s σ H (λc H1=>Q (!c) H1) I h)
def tAndV (ta tb:TE):TE:=λσ H Q=>ta σ H λx H1=>∃ c,x=.bl c/\if c=true then tb σ H1 Q else Q (.bl false) H1
def tOrV (ta tb:TE):TE:=λσ H Q=>ta σ H λx H1=>∃ c,x=.bl c/\if c=true then Q (.bl true) H1 else tb σ H1 Q
def tNotV (ta:TE):TE:=λσ H Q=>ta σ H λx H1=>∃ c,x=.bl c/\Q (.bl (!c)) H1
theorem pe_one {op} {t:TE} (h:PE X a t):PE X (.BoolOp op [a] pos) t:=λpins s σ H Q I hw=>BoolOp_one (h pins s σ H Q I hw)
theorem pe_and (ha:PE X a ta) (hb:PE X (.BoolOp .And (b :: rest) pos) tb):PE X (.BoolOp .And (a :: b :: rest) pos) (tAndV ta tb):=by
 intro pins s σ H Q I h
 refine BoolOp_and (thn (ha pins s σ H _ I h) λv s1 ⟨x,H1,I1,r1,q1⟩=>?_)
 obtain ⟨c,rfl,q1⟩:=q1
 cases r1
 refine wpAny_truthy_bool ?_
 cases c with
 | true=>exact hb pins s1 σ H1 Q I1 q1
 | false=>exact ⟨.bl false,H1,I1,rfl,q1⟩
theorem pe_not (ha:PE X a ta):PE X (.UnaryOp .Not a pos) (tNotV ta):=by
 intro pins s σ H Q I h
 refine UnaryOp_ (thn (ha pins s σ H _ I h) λv s1 ⟨x,H1,I1,r1,q1⟩=>?_)
 obtain ⟨c,rfl,q1⟩:=q1
 cases r1
 exact not_of (wpAny_truthy_bool ⟨.bl (!c),H1,I1,rfl,q1⟩)
def tIf (t:TT) (ta tb:TE):TE:=λσ H Q=>t σ H λc H1=>if c=true then ta σ H1 Q else tb σ H1 Q
theorem pe_ifExp {c:Expr} (hc:PT X c tA) (ha:PE X a ta) (hb:PE X b tb):PE X (.IfExp c a b pos) (tIf tA ta tb):=by
 intro pins s σ H Q I h
 refine wpAny_IfExp (thn (hc pins s σ H _ I h) λd s1 ⟨H1,I1,q1⟩=>?_)
 cases d with
 | true=>exact ha pins s1 σ H1 Q I1 q1
 | false=>exact hb pins s1 σ H1 Q I1 q1
end
end L2

namespace L2
open PySem PySem.Spec PyProof.Rows

def SqL (K:PySem.W.Frag) (H:Hp) (a:Addr) (xs:List V):Prop :=
 Rd H a (.lst xs) \/
   ∃ (o:Obj) (its:Array Value) (n:Nat),K.lookup a=some o/\o.cls=.type "list"/\o.dict=none/\o.data=.seq its n/\its.size <= sizeLine/\Vals xs its.toList
def SqT (K:PySem.W.Frag) (H:Hp) (a:Addr) (xs:List V):Prop :=
 Rd H a (.tup xs) \/
   ∃ (o:Obj) (its:Array Value) (n:Nat),K.lookup a=some o/\o.cls=.type "tuple"/\o.data=.seq its n/\its.size <= sizeLine/\Vals xs its.toList
def absV:Value->Option V
 | .none=>some .non
 | .bool b=>some (.bl b)
 | .int i _=>some (.int i)
 | .str x _=>some (.str x)
 | .bytes b _=>some (.byt b)
 | .float b _=>some (.flt b)
 | .ref a=>some (.ref a)
 | .type n=>some (.ty n)
 | _=>none
theorem RelV.abs {x:V} {u:Value} (r:RelV x u):absV u=some x:=by
 cases x with
 | non=>cases r;rfl
 | bl _=>cases r;rfl
 | int _=>obtain ⟨t,rfl⟩:=r;rfl
 | str _=>obtain ⟨t,rfl⟩:=r;rfl
 | byt _=>obtain ⟨t,rfl⟩:=r;rfl
 | flt _=>obtain ⟨t,rfl⟩:=r;rfl
 | ref _=>cases r;rfl
 | ty _=>cases r;rfl
theorem RelV.inj {x y:V} {u:Value} (r:RelV x u) (q:RelV y u):x=y:=Option.some.inj (r.abs.symm.trans q.abs)
theorem Vals.inj:∀ {xs ys:List V} {us:List Value},Vals xs us->Vals ys us->xs=ys
 | _,_,_,.nil,.nil=>rfl
 | _,_,_,.cons r t,.cons r' t'=>by rw [r.inj r',Vals.inj t t']
section
variable {X:Cx} {pins:List (Addr × Obj)} {σ:St} {H:Hp} {s:Shared} {a:Addr} {xs ys:List V}
theorem SqL.of {K:PySem.W.Frag} (h:H a=some (.lst xs)):SqL K H a xs:=.inl (.inl h)
theorem SqT.of {K:PySem.W.Frag} (h:H a=some (.tup xs)):SqT K H a xs:=.inl (.inl h)
theorem Inv.list (I:Inv X pins σ H s) (h:SqL X.K H a xs):∃ its:List Value,Vals xs its/\PlainL s.heap a its.toArray/\xs.length <= sizeLine:=by
 rcases h with h | ⟨o,its,n,hk,hc,hd,hs,hz,r⟩
 · obtain ⟨z,its,n,r,e⟩:=h.ok I.hok
   exact ⟨its,r,⟨_,n,e,rfl,rfl,rfl⟩,z⟩
 · refine ⟨its.toList,r,⟨o,n,I.kIn a o hk,hc,hd,by simpa using hs⟩,?_⟩
   have e:=r.length
   simp only [Array.length_toList] at e
   omega
theorem Inv.tuple (I:Inv X pins σ H s) (h:SqT X.K H a xs):∃ its:List Value,Vals xs its/\IsTup s.heap a its.toArray/\xs.length <= sizeLine:=by
 rcases h with h | ⟨o,its,n,hk,hc,hs,hz,r⟩
 · obtain ⟨z,its,r,p⟩:=h.ok I.hok
   exact ⟨its,r,p,z⟩
 · refine ⟨its.toList,r,⟨o,I.kIn a o hk,hc,n,by simpa using hs⟩,?_⟩
   have e:=r.length
   simp only [Array.length_toList] at e
   omega
theorem Inv.list_inj (I:Inv X pins σ H s) (h:SqL X.K H a xs) (h':SqL X.K H a ys):xs=ys:=by
 obtain ⟨its,r,⟨o,n,e,_,_,d⟩,_⟩:=I.list h
 obtain ⟨its',r',⟨o',n',e',_,_,d'⟩,_⟩:=I.list h'
 rw [e] at e';cases e'
 rw [d] at d'
 injection d' with d1 _
 have:its=its':=by simpa using congrArg Array.toList d1
 subst this
 exact r.inj r'
theorem Inv.tuple_inj (I:Inv X pins σ H s) (h:SqT X.K H a xs) (h':SqT X.K H a ys):xs=ys:=by
 obtain ⟨its,r,⟨o,e,_,n,d⟩,_⟩:=I.tuple h
 obtain ⟨its',r',⟨o',e',_,n',d'⟩,_⟩:=I.tuple h'
 rw [e] at e';cases e'
 rw [d] at d'
 injection d' with d1 _
 have:its=its':=by simpa using congrArg Array.toList d1
 subst this
 exact r.inj r'
end

abbrev Cx.wish (X:Cx) (E:Value->Shared->Prop):Cx:={ X with xe:=E }
abbrev Cx.nox (X:Cx):Cx:=X.wish λ_ _=>False
theorem Cx.Ok.wish {X:Cx} (ok:X.Ok) (E:Value->Shared->Prop):(X.wish E).Ok :=
 ⟨ok.mod,ok.kind,ok.glob,ok.blt,ok.above,ok.inj,ok.has,ok.cab,ok.hd,ok.frames,ok.stk,ok.exf,ok.bs,ok.bsz,ok.noex,ok.exfs,ok.funs,ok.frf⟩
theorem Cx.Ok.unwish {X:Cx} {E:Value->Shared->Prop} (ok:(X.wish E).Ok):X.Ok :=
 ⟨ok.mod,ok.kind,ok.glob,ok.blt,ok.above,ok.inj,ok.has,ok.cab,ok.hd,ok.frames,ok.stk,ok.exf,ok.bs,ok.bsz,ok.noex,ok.exfs,ok.funs,ok.frf⟩
section
variable {X:Cx} {pins:List (Addr × Obj)} {σ:St} {H:Hp} {s:Shared} {E:Value->Shared->Prop}
theorem Inv.wish (I:Inv X pins σ H s) (E:Value->Shared->Prop):Inv (X.wish E) pins σ H s:=⟨I.ok.wish E,I.os,I.bare,I.base,I.loc,I.cell,I.free,I.freeC,I.pin,I.hok,I.len⟩
theorem Inv.unwish (I:Inv (X.wish E) pins σ H s):Inv X pins σ H s:=⟨I.ok.unwish,I.os,I.bare,I.base,I.loc,I.cell,I.free,I.freeC,I.pin,I.hok,I.len⟩
theorem SP.unwish {D:Ends} {f:Flow} {s':Shared} (h:SP (X.wish E) pins D f s'):SP X pins D f s':=by
 cases f with
 | next=>obtain ⟨σ',H',I,q⟩:=h;exact ⟨σ',H',I.unwish,q⟩
 | brk=>obtain ⟨σ',H',I,q⟩:=h;exact ⟨σ',H',I.unwish,q⟩
 | cont=>obtain ⟨σ',H',I,q⟩:=h;exact ⟨σ',H',I.unwish,q⟩
 | ret u=>obtain ⟨v,σ',H',I,r,q⟩:=h;exact ⟨v,σ',H',I.unwish,r,q⟩
theorem PE.nox {e:Expr} {t:TE} (h:PE X.nox e t):PE X e t:=λpins s σ H Q I hw =>
 wpAny_mono (h pins s σ H Q (I.wish _) hw) (λ_ _ ⟨v,H',I',r,q⟩=>⟨v,H',I'.unwish,r,q⟩) λ_ _ z=>False.elim z
theorem PT.nox {e:Expr} {t:TT} (h:PT X.nox e t):PT X e t:=λpins s σ H Q I hw =>
 wpAny_mono (h pins s σ H Q (I.wish _) hw) (λ_ _ ⟨H',I',q⟩=>⟨H',I'.unwish,q⟩) λ_ _ z=>False.elim z
theorem PSs.nox {st:List Stmt} {t:TS} (h:PSs X.nox st t):PSs X st t:=λpins s σ H D I hw =>
 wpAny_mono (h pins s σ H D (I.wish _) hw) (λ_ _ q=>q.unwish) λ_ _ z=>False.elim z
end

section
variable {X:Cx} {st:Stmt} {rest:List Stmt} {t u:TS} {e:Expr} {te:TE} {pos:Pos}
def tNext:TS:=λD σ H=>D.nx σ H
def tSeq (t u:TS):TS:=λD σ H=>t { D with nx:=u D } σ H
theorem pss_nil:PSs X [] tNext:=λ_ _ σ H _ I h=>wpAny_execs_nil ⟨σ,H,I,h⟩
theorem pss_cons (h1:PS X st t) (h2:PSs X rest u):PSs X (st :: rest) (tSeq t u):=by
 intro pins s σ H D I h
 refine wpAny_execs_cons (thn (h1 pins s σ H { D with nx:=u D } I h) λf s1 q=>?_)
 cases f with
 | next =>
   obtain ⟨σ',H',I',q⟩:=q
   exact h2 pins s1 σ' H' D I' q
 | ret v=>exact q
 | brk=>exact q
 | cont=>exact q
theorem pss_one (h1:PS X st t):PSs X [st] t:=by
 intro pins s σ H D I h
 refine wpAny_execs_cons (thn (h1 pins s σ H D I h) λf s1 q=>?_)
 cases f with
 | next=>exact wpAny_execs_nil q
 | ret v=>exact q
 | brk=>exact q
 | cont=>exact q
def tBreak:TS:=λD σ H=>D.bk σ H
def tCont:TS:=λD σ H=>D.ct σ H
theorem Inv.quiet {pins:List (Addr × Obj)} {σ:St} {H:Hp} {s:Shared} (I:Inv X pins σ H s):interactive X.env=false:=by simp [interactive,I.ok.kind]
def tDrop (te:TE):TS:=λD σ H=>te σ H λ_ H1=>D.nx σ H1
theorem ps_expr (he:PE X e te) (hs:swapsWith e none pos.line X.env=pure false:=by rfl):PS X (.Expr e pos) (tDrop te):=by
 intro pins s σ H D I h
 exact wpAny_Expr_any (thn (he pins s σ H _ I h) λv s1 ⟨x,H1,I1,r1,q1⟩=>⟨σ,H1,I1,q1⟩) I.quiet hs
def tRet (te:TE):TS:=λD σ H=>te σ H D.rt
theorem ps_ret (he:PE X e te):PS X (.Return (some e) pos) (tRet te):=by
 intro pins s σ H D I h
 exact wpAny_Return_some (thn (he pins s σ H _ I h) λv s1 ⟨x,H1,I1,r1,q1⟩=>⟨x,σ,H1,I1,r1,q1⟩)
def tRetN:TS:=λD _ H=>D.rt .non H
def tIfS (c:TT) (t u:TS):TS:=λD σ H=>c σ H λb H1=>if b=true then t D σ H1 else u D σ H1
theorem ps_if {c:Expr} {a b:List Stmt} {tc:TT} (hc:PT X c tc) (ha:PSs X a t) (hb:PSs X b u):PS X (.If c a b pos) (tIfS tc t u):=by
 intro pins s σ H D I h
 refine wpAny_If (thn (hc pins s σ H _ I h) λd s1 ⟨H1,I1,q1⟩=>?_)
 cases d with
 | true=>exact ha pins s1 σ H1 D I1 q1
 | false=>exact hb pins s1 σ H1 D I1 q1
def tNever:TS:=λ_ _ _=>False
theorem ps_never:PS X st tNever:=λ_ _ _ _ _ _ h=>h.elim
end

abbrev TG:=V->St->Hp->(St->Hp->Prop)->Prop
abbrev TGs:=List V->St->Hp->(St->Hp->Prop)->Prop
def PG (X:Cx) (target:Expr) (t:TG):Prop :=
 ∀ (pins:List (Addr × Obj)) (s:Shared) (σ:St) (H:Hp) (v:V) (u:Value) (Q:St->Hp->Prop),Inv X pins σ H s->RelV v u->t v σ H Q ->
   wpAny (model X.prog X.w) X.A (assign target X.env u) (λ_ s'=>∃ σ' H',Inv X pins σ' H' s'/\Q σ' H') X.xe s
def PGs (X:Cx) (ts:List Expr) (t:TGs):Prop :=
 ∀ (pins:List (Addr × Obj)) (s:Shared) (σ:St) (H:Hp) (vs:List V) (us:List Value) (Q:St->Hp->Prop),Inv X pins σ H s->Vals vs us->t vs σ H Q ->
   wpAny (model X.prog X.w) X.A (assignInOrder ((assignEach ts X.env).map (·.2)) us) (λ_ s'=>∃ σ' H',Inv X pins σ' H' s'/\Q σ' H') X.xe s
abbrev TSet:=V->V->V->Hp->(Hp->Prop)->Prop
def PSet (X:Cx) (t:TSet):Prop :=
 ∀ (pins:List (Addr × Obj)) (s:Shared) (σ:St) (H:Hp) (o i v:V) (ov iv u:Value) (Q:Hp->Prop),Inv X pins σ H s->RelV o ov->RelV i iv->RelV v u->t o i v H Q ->
   wpAny (model X.prog X.w) X.A (setItem ov iv u) (λ_ s'=>∃ H',Inv X pins σ H' s'/\Q H') X.xe s
abbrev TIp:=V->V->Hp->VK->Prop
def PIp (X:Cx) (op:Operator) (t:TIp):Prop :=
 ∀ (pins:List (Addr × Obj)) (s:Shared) (σ:St) (H:Hp) (x y:V) (v u:Value) (Q:VK),Inv X pins σ H s->RelV x v->RelV y u->t x y H Q ->
   wpAny (model X.prog X.w) X.A (inplaceOp op v u) (EP X pins σ Q) X.xe s
section
variable {X:Cx} {pos:Pos}
def gName (i:Nat):TG:=λv σ H Q=>Q (σ.set i (some v)) H
theorem pg_name {i:Nat} {x:Str} (hN:X.N.Nodup) (hi:X.N[i]?=some x) (hx:Loc X.env.scope x) (hf:X.fn x=true\/X.env.scope.names.lookup x=some .local:=by first | exact .inl rfl | exact .inr rfl | assumption):PG X (.Name x pos) (gName i):=by
 intro pins s σ H v u Q I r h
 exact wpAny_assign_Name (store_ok I hN hi hx r (λs' I'=>⟨_,H,I',h⟩) hf)
def gNil:TGs:=λvs σ H Q=>vs=[]/\Q σ H
def gCons (t:TG) (u:TGs):TGs:=λvs σ H Q=>∃ v r,vs=v :: r/\t v σ H λσ' H'=>u r σ' H' Q
theorem pgs_nil:PGs X [] gNil:=by
 intro pins s σ H vs us Q I r h
 obtain ⟨e,h⟩:=h
 subst e
 cases r
 exact assignInOrder_nil ⟨σ,H,I,h⟩
theorem pgs_cons {e:Expr} {es:List Expr} {t:TG} {u:TGs} (h1:PG X e t) (h2:PGs X es u)
   (hs:(assignEach (e :: es) X.env).map (·.2)=assign e X.env :: (assignEach es X.env).map (·.2):=by rfl):PGs X (e :: es) (gCons t u):=by
 intro pins s σ H vs us Q I r h
 obtain ⟨v,vr,e1,h⟩:=h
 subst e1
 cases r with
 | cons r rr =>
   rw [hs]
   refine assignInOrder_cons (thn (h1 pins s σ H _ _ _ I r h) λ_ s1 ⟨σ1,H1,I1,q1⟩=>?_)
   exact h2 pins s1 σ1 H1 _ _ Q I1 rr q1
def gTup (K:PySem.W.Frag) (n:Nat) (t:TGs):TG:=λv σ H Q=>∃ a xs,v=.ref a/\SqT K H a xs/\xs.length=n/\t xs σ H Q
theorem pg_tup {es:List Expr} {k:Nat} {t:TGs} {n:Nat} (hc:X.calm=true) (h:PGs X es t)
   (hn:(assignEach es X.env).length=n:=by rfl) (hst:(assignEach es X.env).findIdx? (·.1)=none:=by rfl):PG X (.Tuple es k pos) (gTup X.K n t):=by
 intro pins s σ H v u Q I r hw
 obtain ⟨a,xs,e1,hq,hl,hw⟩:=hw
 subst e1
 cases r
 obtain ⟨its,rv,ht,hz⟩:=I.tuple hq
 refine assign_Tuple_tuple (I.ok.hd hc) ht (by simp [hn,← hl,rv.length]) hst λh' hx=>?_
 have I1:Inv X pins σ H { s with heap:=h' }:=I.kept (t':=s.toks) λb o e=>hx b o (Nat.ne_of_lt (Heap.lt_size e)) e
 exact h pins _ σ H xs _ Q I1 (by simpa using rv) hw
def gSub (to ti:TE) (t:TSet):TG:=λv σ H Q=>to σ H λo H1=>ti σ H1 λi H2=>t o i v H2 λH3=>Q σ H3
theorem pg_sub {o i:Expr} {to ti:TE} {t:TSet} (ho:PE X o to) (hi:PE X i ti) (hs:PSet X t)
   (ha:∀ v,assign (.Subscript o i pos) X.env v=(do
     let ov ← holding [v] (eval o X.env)
     let iv ← holding [v,ov] (eval i X.env)
     standAt pos
     holding [v,ov,iv] (setItem ov iv v)
     release [v,ov,iv] []):=by intro _;rfl):PG X (.Subscript o i pos) (gSub to ti t):=by
 intro pins s σ H v u Q I r h
 rw [ha]
 refine wpAny_bind (wpAny_holding (thn (ho pins s σ H _ I h) λov s1 ⟨x,H1,I1,r1,q1⟩=>?_))
 refine wpAny_bind (wpAny_holding (thn (hi pins s1 σ H1 _ I1 q1) λiv s2 ⟨y,H2,I2,r2,q2⟩=>?_))
 refine wpAny_bind (wpAny_standAt (wpAny_bind (wpAny_holding (thn (hs pins s2 σ H2 x y v ov iv u _ I2 r1 r2 r q2) λ_ s3 ⟨H3,I3,q3⟩=>?_))))
 exact wpAny_release ⟨σ,H3,I3,q3⟩
def tAsg (te:TE) (g:TG):TS:=λD σ H=>te σ H λx H1=>g x σ H1 D.nx
theorem ps_asg {tg e:Expr} {te:TE} {g:TG} (he:PE X e te) (hg:PG X tg g) (hs:swapsWithSole [tg] e pos.line X.env=pure false:=by rfl) (hw:swappedStores [tg] e X.env=pure none:=by rfl)
   (h1:(assignEach [tg] X.env).map (·.2)=[assign tg X.env]:=by rfl):PS X (.Assign [tg] e pos) (tAsg te g):=by
 intro pins s σ H D I h
 refine wpAny_Assign_stores (thn (he pins s σ H _ I h) λv s1 ⟨x,H1,I1,r1,q1⟩=>?_) hs hw
 rw [h1]
 exact thn (hg pins s1 σ H1 x v _ I1 r1 q1) λ_ s2 q=>q
theorem ps_set {i:Nat} {x:Str} {e:Expr} {te:TE} {pos':Pos} (hN:X.N.Nodup) (hi:X.N[i]?=some x) (hx:Loc X.env.scope x) (he:PE X e te) (hs:swapsWith e (some (.Name x pos')) pos.line X.env=pure false:=by rfl) (hf:X.fn x=true\/X.env.scope.names.lookup x=some .local:=by first | exact .inl rfl | exact .inr rfl | assumption) :
   PS X (.Assign [.Name x pos'] e pos) (tAsg te (gName i)):=by
 intro pins s σ H D I h
 refine wpAny_Assign_Name (thn (he pins s σ H _ I h) λv s1 ⟨y,H1,I1,r1,q1⟩=>?_) hs
 exact store_ok I1 hN hi hx r1 (λs2 I2=>⟨_,H1,I2,q1⟩) hf
def tPar (i j:Nat) (ta:TA):TS:=λD σ H=>ta σ H λvs H1=>∃ v w,vs=[v,w]/\D.nx ((σ.set i (some v)).set j (some w)) H1
def tAug (i:Nat) (te:TE) (ti:TIp):TS:=λD σ H=>∃ x,σ[i]?=some (some x)/\te σ H λy H1=>ti x y H1 λz H2=>D.nx (σ.set i (some z)) H2
def tAugS (to ti te:TE) (tget:V->V->Hp->VK->Prop) (tip:TIp) (tset:TSet):TS:=λD σ H=>to σ H λo H1=>ti σ H1 λi H2=>tget o i H2 λx H3=>te σ H3 λy H4=>tip x y H4 λz H5=>tset o i z H5 λH6=>D.nx σ H6
def PGet (X:Cx) (t:V->V->Hp->VK->Prop):Prop :=
 ∀ (pins:List (Addr × Obj)) (s:Shared) (σ:St) (H:Hp) (o i:V) (ov iv:Value) (Q:VK),Inv X pins σ H s->RelV o ov->RelV i iv->t o i H Q ->
   wpAny (model X.prog X.w) X.A (getItem ov iv) (EP X pins σ Q) X.xe s
def ipI (f:Int->Int->Int):TIp:=λx y H Q=>∃ i j,x=.int i/\y=.int j/\Q (.int (f i j)) H
end

section
variable {X:Cx} {pos:Pos}
def tWhile (c:TT) (tb:TS):TS:=λD σ H=>∃ W:Nat->St->Hp->Prop,(∃ m,W m σ H)/\∀ m σ H,W m σ H ->
 c σ H λb H1=>if b=true then ∃ N:St->Hp->Prop,(∀ σ' H',N σ' H'->∃ m',m' < m/\W m' σ' H')/\tb { D with nx:=N,ct:=N,bk:=D.nx } σ H1 else D.nx σ H1
theorem ps_while {c:Expr} {body:List Stmt} {tc:TT} {tb:TS} (hp:PassesOwn (model X.prog X.w) X.A X.env X.xe) (hc:PT X c tc) (hb:PSs X body tb):PS X (.While c body [] pos) (tWhile tc tb):=by
 intro pins s σ H D I h
 obtain ⟨W,⟨m0,w0⟩,turn⟩:=h
 refine wpAny_While (codeAny_whileLoop (λn s'=>∃ σ' H',Inv X pins σ' H' s'/\W n σ' H') ?_ m0 ⟨σ,H,I,w0⟩)
 rintro n s1 ⟨σ1,H1,I1,w1⟩
 refine wpAny_passesOwn hp (thn (hc pins s1 σ1 H1 _ I1 (turn n σ1 H1 w1)) λb s2 ⟨H2,I2,q2⟩=>?_)
 cases b with
 | true =>
   obtain ⟨N,hN,q2⟩:=q2
   rw [if_pos rfl]
   refine wpAny_passesOwn hp (thn (hb pins s2 σ1 H2 _ I2 q2) λf s3 q3=>?_)
   cases f with
   | next =>
     obtain ⟨σ3,H3,I3,n3⟩:=q3
     obtain ⟨m',hm,w3⟩:=hN σ3 H3 n3
     exact ⟨m',hm,σ3,H3,I3,w3⟩
   | cont =>
     obtain ⟨σ3,H3,I3,n3⟩:=q3
     obtain ⟨m',hm,w3⟩:=hN σ3 H3 n3
     exact ⟨m',hm,σ3,H3,I3,w3⟩
   | brk=>exact q3
   | ret v=>exact q3
 | false =>
   rw [if_neg Bool.false_ne_true]
   exact wpAny_execs_nil ⟨σ1,H2,I2,q2⟩
end

structure It where
 go:Nat->Hp->Prop
 yld:Nat->Hp->V->Hp->Prop
 stop:Nat->Hp->Prop
def FpOk (X:Cx) (pins:List (Addr × Obj)) (H:Hp) (b:Addr):Prop :=
 H b=none/\b≠X.env.locals/\b ∉ X.fs/\(b∈X.ex\/X.s₀.heap.objs.size <= b)/\(∀ x c,X.env.cells.lookup x=some c->c≠b)/\∀ p∈X.pn++pins,p.1≠b
theorem Inv.fpOk {X:Cx} {pins:List (Addr × Obj)} {σ:St} {H H':Hp} {s:Shared} {b:Addr} (I:Inv X pins σ H s) (hb:s.heap.objs.size <= b) (hn:H' b=none):FpOk X pins H' b:=by
 refine ⟨hn,Nat.ne_of_gt (Nat.lt_of_lt_of_le I.lt hb),I.nofs hb,.inr (Nat.le_trans I.sz hb),λx c e z=>?_,λp hp z=>?_⟩
 · obtain ⟨v,q⟩:=I.cell x c e
   exact absurd (Nat.lt_of_lt_of_le q.lt (by rw [z];exact hb)) (Nat.lt_irrefl _)
 · exact absurd (Nat.lt_of_lt_of_le (Heap.lt_size (I.pin p hp).1) (by rw [z];exact hb)) (Nat.lt_irrefl _)
structure Turn (P:Program) (w:World) (K:PySem.W.Frag) (tg:Expr) (J:It) (fp:List Addr) (it:Addr) (tn:Nat->Heap->Prop):Prop where
 mem:it∈fp
 obj:∀ i h,tn i h->∀ b∈fp,∃ o,h.get? b=some o/\∀ v,o.data≠.cell v
 keep:∀ i h h',tn i h->(∀ b∈fp,∀ o,h.get? b=some o->h'.get? b=some o)->tn i h'
 item:∀ (X:Cx),X.prog=P->X.w=w->X.K=K->X.calm=true->∀ (i:Nat) (pins:List (Addr × Obj)) (s:Shared) (σ:St) (H:Hp) (E:Value->Shared->Prop),Inv X pins σ H s->(∀ b∈fp,FpOk X pins H b)->tn i s.heap->J.go i H ->
   wpAny (model P w) X.A (pyNext (.ref it)) (λr s1=>∃ u,r=some u /\
     wpAny (model P w) X.A (letOwnedTupleGo tg (.ref it) u) (λ_ s2=>∃ x H',Inv X pins σ H' s2/\RelV x u/\J.yld i H x H'/\tn (i+1) s2.heap/\∀ b∈fp,H' b=none) E s1) E s
 done:∀ (X:Cx),X.prog=P->X.w=w->X.K=K->X.calm=true->∀ (i:Nat) (pins:List (Addr × Obj)) (s:Shared) (σ:St) (H:Hp) (E:Value->Shared->Prop),Inv X pins σ H s->(∀ b∈fp,FpOk X pins H b)->tn i s.heap->J.stop i H ->
   wpAny (model P w) X.A (pyNext (.ref it)) (λr s1=>r=none/\Inv X pins σ H s1) E s
 self:∀ (A:Around) (i:Nat) (s:Shared) (Q:Value->Shared->Prop) (E:Value->Shared->Prop),tn i s.heap->Q (.ref it) s->wpAny (model P w) A (pyIter (.ref it)) Q E s
abbrev TI:=St->Hp->(It->Hp->Prop)->Prop
def PIE (X:Cx) (pins:List (Addr × Obj)) (σ:St) (tg:Expr) (R:It->Hp->Prop) (itv:Value) (s2:Shared):Prop :=
 ∃ (it:Addr) (fp:List Addr) (tn:Nat->Heap->Prop) (J:It) (H':Hp),itv=.ref it/\Inv X pins σ H' s2/\Turn X.prog X.w X.K tg J fp it tn/\tn 0 s2.heap/\(∀ b∈fp,FpOk X pins H' b)/\R J H'
def PI (X:Cx) (tg iter:Expr) (wi:TI):Prop :=
 ∀ (pins:List (Addr × Obj)) (s:Shared) (σ:St) (H:Hp) (R:It->Hp->Prop),Inv X pins σ H s->wi σ H R ->
   wpAny (model X.prog X.w) X.A (eval iter X.env) (λv s1=>wpAny (model X.prog X.w) X.A (pyIter v) (PIE X pins σ tg R) X.xe s1) X.xe s

theorem go_of {M:Model} {A:Around} {E:Value->Shared->Prop} {s:Shared} {tg:Expr} {it:Addr} {u:Value} {o:Obj} {n:String} {vs:Array Value} {Q:Unit->Shared->Prop} (ho:s.heap.get? it=some o) (hc:o.cls=.type n) (hd:o.data=.fields vs)
   (hn:["enumerate","zip","dict_itemiterator","dict_reverseitemiterator","odict_iterator","itertools.zip_longest","itertools.pairwise"].contains n=false) (hQ:Q () s):wpAny M A (letOwnedTupleGo tg (.ref it) u) Q E s:=by
 unfold letOwnedTupleGo
 cases tg<;>first
   | exact wpAny_pure hQ
   | (cases u<;>first
       | exact wpAny_pure hQ
       | (refine wpAny_bind (wpAny_load ho ?_)
          rw [hc,hd]
          show wpAny M A (if (["enumerate","zip","dict_itemiterator","dict_reverseitemiterator","odict_iterator","itertools.zip_longest","itertools.pairwise"].contains n && vs[0]? == some (rawInt _))=true then _ else _) Q E s
          rw [if_neg (by intro h;rw [hn,Bool.false_and] at h;cases h)]
          exact wpAny_pure hQ))

def Itl (K:PySem.W.Frag) (a:Addr):It :=
 ⟨λi H=>∃ xs x,SqL K H a xs/\xs[i]?=some x,λi H x H'=>H'=H/\∀ xs,SqL K H a xs->xs[i]?=some x,λi H=>∃ xs,SqL K H a xs/\xs.length <= i⟩
def Itt (K:PySem.W.Frag) (a:Addr):It :=
 ⟨λi H=>∃ xs x,SqT K H a xs/\xs[i]?=some x,λi H x H'=>H'=H/\∀ xs,SqT K H a xs->xs[i]?=some x,λi H=>∃ xs,SqT K H a xs/\xs.length <= i⟩
def Itr (lo:Int) (n:Nat):It:=⟨λi _=>i < n,λi H x H'=>H'=H/\x=.int (lo+i),λi _=>n <= i⟩
theorem turn_list {P:Program} {w:World} {K:PySem.W.Frag} {tg:Expr} (a it:Addr):Turn P w K tg (Itl K a) [it] it (λi h=>h.IsListIter it a i) where
 mem:=by simp
 obj:=λi h st b hb=>by
   have e:b=it:=by simpa using hb
   subst e
   obtain ⟨o,e,c,d⟩:=st
   exact ⟨o,e,λv z=>by rw [d] at z;cases z⟩
 keep:=λi h h' st k=>st.at λo e=>k it (by simp) o e
 item:=by
   intro X hP hw hK hc i pins s σ H E I hf st hg
   subst hP hw hK
   obtain ⟨xs,x,hq,hx⟩:=hg
   obtain ⟨its,rv,p,hz⟩:=I.list hq
   obtain ⟨u,hu,ru⟩:=rv.get hx
   obtain ⟨f0,f1,f2,f3,f4,f5⟩:=hf it (by simp)
   refine wpAny_pyNext_list_item st p.isList (x:=u) (by simpa using hu) λh' st' sb=>?_
   have I1:Inv X pins σ H { s with heap:=h' }:=I.turned (t':=s.toks) (λb o hb e=>(sb.2 b hb).trans e) f0 f1 f3 f4 f5
   obtain ⟨o,e,c,d⟩:=id st'
   exact ⟨u,rfl,go_of (s:={ s with heap:=h' }) e c d (by decide) ⟨x,H,I1,ru,⟨rfl,λys hy=>by rw [I.list_inj hy hq];exact hx⟩,st',λb hb=>(hf b hb).1⟩⟩
 done:=by
   intro X hP hw hK hc i pins s σ H E I hf st hg
   subst hP hw hK
   obtain ⟨xs,hq,hx⟩:=hg
   obtain ⟨its,rv,p,hz⟩:=I.list hq
   obtain ⟨f0,f1,f2,f3,f4,f5⟩:=hf it (by simp)
   have hl:=rv.length
   exact wpAny_pyNext_list_end (I.ok.hd hc) st p.isList (by simp;omega) λh' eb=>⟨rfl,I.turned (t':=s.toks) (λb o hb e=>eb b o hb e) f0 f1 f3 f4 f5⟩
 self:=λ_ _ _ _ _ st h=>wpAny_pyIter_listiter st h
theorem turn_range {P:Program} {w:World} {K:PySem.W.Frag} {tg:Expr} (it:Addr) (lo:Int) (n:Nat):Turn P w K tg (Itr lo n) [it] it (λi h=>IsRangeIter h it (lo+(i:Nat) * 1) ((n:Int) - (i:Nat)) 1) where
 mem:=by simp
 obj:=λi h st b hb=>by
   have e:b=it:=by simpa using hb
   subst e
   exact ⟨_,st,λv z=>by
     have z':Data.fields _=Data.cell v:=z
     cases z'⟩
 keep:=λi h h' st k=>k it (by simp) _ st
 item:=by
   intro X hP hw hK hc i pins s σ H E I hf st hg
   subst hP hw hK
   obtain ⟨f0,f1,f2,f3,f4,f5⟩:=hf it (by simp)
   have W:=Walks.range (prog:=X.prog) (w:=X.w) (I.ok.hd hc) it lo 1 n
   refine W.item i s _ _ hg st λv h' tk hv st' kk=>?_
   obtain ⟨t,rfl⟩:=hv
   have I1:Inv X pins σ H { s with heap:=h',toks:=tk }:=I.turned (λb o hb e=>kk b o (by simpa using hb) e) f0 f1 f3 f4 f5
   refine ⟨_,rfl,go_of (s:={ s with heap:=h',toks:=tk }) (n:="range_iterator") st' rfl rfl (by decide) ⟨.int (lo+i),H,I1,⟨t,?_⟩,⟨rfl,rfl⟩,st',λb hb=>(hf b hb).1⟩⟩
   rw [Int.mul_one]
 done:=by
   intro X hP hw hK hc i pins s σ H E I hf st hg
   subst hP hw hK
   obtain ⟨f0,f1,f2,f3,f4,f5⟩:=hf it (by simp)
   exact wpAny_pyNext_range_end (I.ok.hd hc) st (by have:n <= i:=hg;omega) λh' eb=>⟨rfl,I.turned (t':=s.toks) (λb o hb e=>eb b o hb e) f0 f1 f3 f4 f5⟩
 self:=λ_ _ _ _ _ st h=>wpAny_pyIter_rangeiter st h
end L2

namespace L2
open PySem PySem.Spec PyProof.Rows
section
variable {X:Cx} {tg:Expr}
def iList (K:PySem.W.Frag) (tl:TE):TI:=λσ H R=>tl σ H λx H1=>∃ a,x=.ref a/\(∃ xs,SqL K H1 a xs)/\R (Itl K a) H1
def iTup (K:PySem.W.Frag) (tl:TE):TI:=λσ H R=>tl σ H λx H1=>∃ a,x=.ref a/\(∃ xs,SqT K H1 a xs)/\R (Itt K a) H1
theorem pi_list {l:Expr} {tl:TE} (hl:PE X l tl):PI X tg l (iList X.K tl):=by
 intro pins s σ H R I h
 refine thn (hl pins s σ H _ I h) λv s1 ⟨x,H1,I1,r1,q1⟩=>?_
 obtain ⟨a,e,⟨xs,hq⟩,q⟩:=q1
 subst e
 cases r1
 obtain ⟨its,rv,p,hz⟩:=I1.list hq
 refine wpAny_pyIter_list p.isList ?_
 refine ⟨s1.heap.objs.size,[s1.heap.objs.size],_,_,H1,rfl,I1.kept (t':=s1.toks) λb o e=>Heap.get?_push_of_some _ e,turn_list a _,⟨_,Heap.get?_push_size _ rfl,rfl,rfl⟩,λb hb=>?_,q⟩
 have e:b=s1.heap.objs.size:=by simpa using hb
 subst e
 exact I1.fpOk (Nat.le_refl _) (I1.hok.fresh (Nat.le_refl _))
theorem range_it {pins:List (Addr × Obj)} {σ:St} {H:Hp} {s:Shared} {R:It->Hp->Prop} {E:Value->Shared->Prop} {lo hi:Int} {t u v:Tok} {tk:Nat} (I:Inv X pins σ H s) (h1:-(2 ^ 62) <= lo) (h2:lo < 2 ^ 62) (h3:-(2 ^ 62) <= hi) (h4:hi < 2 ^ 62)
   (q:R (Itr lo (hi - lo).toNat) H):wpAny (model X.prog X.w) X.A (pyIter (.ref s.heap.objs.size)) (PIE X pins σ tg R) E { s with heap:=s.heap.push { cls:=.type "range",data:=.fields #[.int lo t,.int hi u,.int 1 v] },toks:=tk }:=by
 refine wpAny_pyIter_range (IsRange.new ..) (small_one h1 h2 h3 h4) ?_
 have I1:Inv X pins σ H { s with heap:=s.heap.push { cls:=.type "range",data:=.fields #[.int lo t,.int hi u,.int 1 v] },toks:=tk }:=I.kept λb o e=>Heap.get?_push_of_some _ e
 refine ⟨(s.heap.push { cls:=.type "range",data:=.fields #[.int lo t,.int hi u,.int 1 v] }).objs.size,[(s.heap.push { cls:=.type "range",data:=.fields #[.int lo t,.int hi u,.int 1 v] }).objs.size],_,_,H,rfl,
   I1.kept (t':=tk) λb o e=>Heap.get?_push_of_some _ e,turn_range _ lo (hi - lo).toNat,?_,λb hb=>?_,q⟩
 · have e1:lo+((0:Nat):Int) * 1=lo:=by simp
   have e2:(((hi - lo).toNat:Nat):Int) - ((0:Nat):Int)=Builtin.Range.rangeSize lo hi 1:=by rw [rangeSize_one];split<;>omega
   show IsRangeIter _ _ (lo+((0:Nat):Int) * 1) ((((hi - lo).toNat:Nat):Int) - ((0:Nat):Int)) 1
   rw [e1,e2]
   exact Heap.get?_push_size _ rfl
 · have e:b=(s.heap.push { cls:=.type "range",data:=.fields #[.int lo t,.int hi u,.int 1 v] }).objs.size:=by simpa using hb
   subst e
   exact I1.fpOk (Nat.le_refl _) (I1.hok.fresh (Nat.le_refl _))
def iRng1 (ta:TA):TI:=λσ H R=>ta σ H λvs H1=>∃ j:Int,vs=[.int j]/\-(2 ^ 62) <= j/\j < 2 ^ 62/\R (Itr 0 j.toNat) H1
def iRng2 (ta:TA):TI:=λσ H R=>ta σ H λvs H1=>∃ i j:Int,vs=[.int i,.int j]/\(-(2 ^ 62) <= i/\i < 2 ^ 62/\-(2 ^ 62) <= j/\j < 2 ^ 62)/\R (Itr i (j - i).toNat) H1
theorem pi_range1 {a:Expr} {ta:TA} {p pos:Pos} (hg:Gl X "range") (hm:X.mg "range"=none) (ha:PA X [a] ta) (hs:starEach [a] X.env=[(false,eval a X.env)]:=by rfl):PI X tg (.Call (.Name "range" p) [a] [] pos) (iRng1 ta):=by
 intro pins s σ H R I h
 refine Call_ (ld_blt I hg hm boot_range (PyProof.Rows.callWith_type1 (thn (ha pos pins s σ H _ I h) λus s1 ⟨vs,H1,I1,r1,q1⟩=>?_) hs rfl))
 obtain ⟨j,e,q1,q2,q⟩:=q1
 subst e
 cases r1 with
 | cons r rr =>
   cases rr
   obtain ⟨t,rfl⟩:=r
   exact call_range_1 (range_it I1 (by omega) (by omega) q1 q2 (by simpa using q))
def tFor (wi:TI) (g:TG) (tb:TS):TS:=λD σ H=>wi σ H λJ H1=>∃ W:Nat->Nat->St->Hp->Prop,(∃ m,W 0 m σ H1)/\∀ i m σ H,W i m σ H ->
 (J.stop i H/\D.nx σ H)\/(J.go i H/\∃ N:St->Hp->Prop,(∀ σ' H',N σ' H'->∃ m',m' < m/\W (i+1) m' σ' H')/\∀ x H',J.yld i H x H'->g x σ H' λσ2 H2=>tb { D with nx:=N,ct:=N,bk:=D.nx } σ2 H2)
def pinsAt (fp:List Addr) (h:Heap):List (Addr × Obj):=fp.filterMap λb=>(h.get? b).map λo=>(b,o)
theorem mem_pinsAt {fp:List Addr} {h:Heap} {b:Addr} {o:Obj} (hb:b∈fp) (e:h.get? b=some o):(b,o)∈pinsAt fp h:=List.mem_filterMap.mpr ⟨b,hb,by rw [e];rfl⟩
theorem of_pinsAt {fp:List Addr} {h:Heap} {p:Addr × Obj} (hp:p∈pinsAt fp h):p.1∈fp/\h.get? p.1=some p.2:=by
 obtain ⟨b,hb,e⟩:=List.mem_filterMap.mp hp
 cases q:h.get? b with
 | none=>rw [q] at e;cases e
 | some o =>
   rw [q] at e
   have e':(b,o)=p:=Option.some.inj e
   subst e'
   exact ⟨hb,q⟩
theorem Inv.pinned {pins:List (Addr × Obj)} {σ:St} {H:Hp} {s:Shared} {fp:List Addr} (I:Inv X pins σ H s) (hf:∀ b∈fp,FpOk X pins H b) (ho:∀ b∈fp,∃ o,s.heap.get? b=some o/\∀ v,o.data≠.cell v):Inv X (pins++pinsAt fp s.heap) σ H s :=
 I.pins_of λp hp=>(List.mem_append.mp hp).elim (λz=>I.pin p (List.mem_append_right _ z)) λz=>by
   obtain ⟨hb,e⟩:=of_pinsAt z
   obtain ⟨f0,f1,f2,_⟩:=hf p.1 hb
   obtain ⟨o,e',d⟩:=ho p.1 hb
   rw [e] at e';cases e'
   exact ⟨e,f0,f1,f2,d⟩
theorem Inv.unpinned {pins pl:List (Addr × Obj)} {σ:St} {H:Hp} {s:Shared} (I:Inv X (pins++pl) σ H s):Inv X pins σ H s:=I.pins_of λp hp=>I.pin p (List.mem_append_right _ (List.mem_append_left _ hp))
theorem ps_for {iter:Expr} {body:List Stmt} {wi:TI} {g:TG} {tb:TS} {pos:Pos} (hp:PassesOwn (model X.prog X.w) X.A X.env X.xe) (hc:X.calm=true) (hi:PI X tg iter wi) (hg:PG X tg g) (hb:PSs X body tb)
   (hs:∀ x,foldedSetIterable iter X.env x=pure x:=by intro _;rfl):PS X (.For tg iter body [] pos) (tFor wi g tb):=by
 intro pins s σ H D I h
 refine wpAny_For (thn (hi pins s σ H _ I h) λv s1 h1=>thn h1 λitv s2 h2=>?_) hs
 obtain ⟨it,fp,tn,J,H2,e,I2,T,st2,f2,W,⟨m0,w0⟩,turn⟩:=h2
 subst e
 have stat:∀ {H':Hp},(∀ b∈fp,H' b=none)->∀ b∈fp,FpOk X pins H' b:=λhn b hb=>⟨hn b hb,(f2 b hb).2⟩
 refine codeAny_forLoop_any (λn s'=>∃ i σ' H',Inv X pins σ' H' s'/\tn i s'.heap/\(∀ b∈fp,H' b=none)/\W i n σ' H') ?_ m0 ⟨0,σ,H2,I2,st2,λb hb=>(f2 b hb).1,w0⟩
 rintro n s3 ⟨i,σ3,H3,I3,st3,fr3,w3⟩
 rcases turn i n σ3 H3 w3 with ⟨stop,qn⟩ | ⟨go,N,hN,step⟩
 · refine wpAny_passesOwn hp (thn (T.done X rfl rfl rfl hc i pins s3 σ3 H3 X.xe I3 (stat fr3) st3 stop) λr s4 ⟨hr,I4⟩=>?_)
   subst hr
   exact wpAny_execs_nil ⟨σ3,H3,I4,qn⟩
 · refine wpAny_passesOwn hp (thn (T.item X rfl rfl rfl hc i pins s3 σ3 H3 X.xe I3 (stat fr3) st3 go) λr s4 ⟨u,hr,h4⟩=>?_)
   subst hr
   refine wpAny_passesOwn hp (thn h4 λ_ s5 ⟨x,H5,I5,r5,y5,st5,fr5⟩=>?_)
   have I5':=I5.pinned (stat fr5) (T.obj _ _ st5)
   refine wpAny_passesOwn hp (thn (hg _ s5 σ3 H5 x u _ I5' r5 (step x H5 y5)) λ_ s6 ⟨σ6,H6,I6,q6⟩=>?_)
   refine wpAny_passesOwn hp (thn (hb _ s6 σ6 H6 _ I6 q6) λf s7 q7=>?_)
   have again:∀ {σ7:St} {H7:Hp},Inv X (pins++pinsAt fp s5.heap) σ7 H7 s7->N σ7 H7->∃ m,m < n/\∃ i σ' H',Inv X pins σ' H' s7/\tn i s7.heap/\(∀ b∈fp,H' b=none)/\W i m σ' H':=λ{σ7 H7} I7 n7=>by
     obtain ⟨m',hm,w7⟩:=hN σ7 H7 n7
     refine ⟨m',hm,i+1,σ7,H7,I7.unpinned,T.keep _ _ _ st5 λb hb o e=>(I7.pin (b,o) (List.mem_append_right _ (List.mem_append_right _ (mem_pinsAt hb e)))).1,λb hb=>?_,w7⟩
     obtain ⟨o,e,d⟩:=T.obj _ _ st5 b hb
     exact (I7.pin (b,o) (List.mem_append_right _ (List.mem_append_right _ (mem_pinsAt hb e)))).2.1
   cases f with
   | next=>obtain ⟨σ7,H7,I7,n7⟩:=q7;exact again I7 n7
   | cont=>obtain ⟨σ7,H7,I7,n7⟩:=q7;exact again I7 n7
   | brk=>obtain ⟨σ7,H7,I7,q7⟩:=q7;exact ⟨σ7,H7,I7.unpinned,q7⟩
   | ret v=>obtain ⟨x7,σ7,H7,I7,r7,q7⟩:=q7;exact ⟨x7,σ7,H7,I7.unpinned,r7,q7⟩
end

theorem for_list {K:PySem.W.Frag} {a:Addr} {xs:List V} {g:TG} {tb:TS} {D:Ends} {σ:St} {H:Hp} (Pv:Nat->St->Hp->Prop) (h0:Pv 0 σ H) (hl:∀ i σ H,i <= xs.length->Pv i σ H->SqL K H a xs)
   (hs:∀ i x σ H,xs[i]?=some x->Pv i σ H->g x σ H λσ2 H2=>tb { D with nx:=Pv (i+1),ct:=Pv (i+1),bk:=D.nx } σ2 H2) (hd:∀ σ H,Pv xs.length σ H->D.nx σ H) :
   ∃ W:Nat->Nat->St->Hp->Prop,(∃ m,W 0 m σ H)/\∀ i m σ H,W i m σ H ->
     ((Itl K a).stop i H/\D.nx σ H)\/((Itl K a).go i H/\∃ N:St->Hp->Prop,(∀ σ' H',N σ' H'->∃ m',m' < m/\W (i+1) m' σ' H')/\∀ x H',(Itl K a).yld i H x H'->g x σ H' λσ2 H2=>tb { D with nx:=N,ct:=N,bk:=D.nx } σ2 H2):=by
 refine ⟨λi m σ H=>m=xs.length - i/\i <= xs.length/\Pv i σ H,⟨xs.length,by simp,Nat.zero_le _,h0⟩,?_⟩
 rintro i m σ H ⟨rfl,hi,p⟩
 have q:=hl i σ H hi p
 by_cases hlt:i < xs.length
 · refine .inr ⟨⟨xs,xs[i],q,by simp [hlt]⟩,Pv (i+1),λσ' H' p'=>⟨xs.length - (i+1),by omega,rfl,hlt,p'⟩,λx H' y=>?_⟩
   obtain ⟨e,y⟩:=y
   subst e
   exact hs i x σ _ (y xs q) p
 · have e:i=xs.length:=by omega
   subst e
   exact .inl ⟨⟨xs,q,Nat.le_refl _⟩,hd σ H p⟩
theorem for_range {lo:Int} {n:Nat} {g:TG} {tb:TS} {D:Ends} {σ:St} {H:Hp} (Pv:Nat->St->Hp->Prop) (h0:Pv 0 σ H)
   (hs:∀ i σ H,i < n->Pv i σ H->g (.int (lo+i)) σ H λσ2 H2=>tb { D with nx:=Pv (i+1),ct:=Pv (i+1),bk:=D.nx } σ2 H2) (hd:∀ σ H,Pv n σ H->D.nx σ H) :
   ∃ W:Nat->Nat->St->Hp->Prop,(∃ m,W 0 m σ H)/\∀ i m σ H,W i m σ H ->
     ((Itr lo n).stop i H/\D.nx σ H)\/((Itr lo n).go i H/\∃ N:St->Hp->Prop,(∀ σ' H',N σ' H'->∃ m',m' < m/\W (i+1) m' σ' H')/\∀ x H',(Itr lo n).yld i H x H'->g x σ H' λσ2 H2=>tb { D with nx:=N,ct:=N,bk:=D.nx } σ2 H2):=by
 refine ⟨λi m σ H=>m=n - i/\i <= n/\Pv i σ H,⟨n,by simp,Nat.zero_le _,h0⟩,?_⟩
 rintro i m σ H ⟨rfl,hi,p⟩
 by_cases hlt:i < n
 · refine .inr ⟨hlt,Pv (i+1),λσ' H' p'=>⟨n - (i+1),by omega,rfl,hlt,p'⟩,λx H' y=>?_⟩
   obtain ⟨e,y⟩:=y
   subst e y
   exact hs i σ _ hlt p
 · have e:i=n:=by omega
   subst e
   exact .inl ⟨Nat.le_refl _,hd σ H p⟩
end L2

namespace L2
open PySem PySem.Spec PyProof.Rows

abbrev R2:=V->V->Hp->VK->Prop
def OpR (X:Cx) (f:Value->Value->Sem Value) (r:R2):Prop :=
 ∀ (pins:List (Addr × Obj)) (s:Shared) (σ:St) (H:Hp) (x y:V) (v u:Value) (Q:VK),Inv X pins σ H s->RelV x v->RelV y u->r x y H Q ->
   wpAny (model X.prog X.w) X.A (f v u) (EP X pins σ Q) X.xe s
def UnR (X:Cx) (f:Value->Sem Value) (r:V->Hp->VK->Prop):Prop :=
 ∀ (pins:List (Addr × Obj)) (s:Shared) (σ:St) (H:Hp) (x:V) (v:Value) (Q:VK),Inv X pins σ H s->RelV x v->r x H Q ->
   wpAny (model X.prog X.w) X.A (f v) (EP X pins σ Q) X.xe s
def CallR (X:Cx) (f:Value) (r:List V->Hp->VK->Prop):Prop :=
 ∀ (pins:List (Addr × Obj)) (s:Shared) (σ:St) (H:Hp) (xs:List V) (us:List Value) (Q:VK),Inv X pins σ H s->Vals xs us->r xs H Q ->
   wpAny (model X.prog X.w) X.A (call f us) (EP X pins σ Q) X.xe s
def TruR (X:Cx) (r:V->Hp->(Bool->Hp->Prop)->Prop):Prop :=
 ∀ (pins:List (Addr × Obj)) (s:Shared) (σ:St) (H:Hp) (x:V) (v:Value) (Q:Bool->Hp->Prop),Inv X pins σ H s->RelV x v->r x H Q ->
   wpAny (model X.prog X.w) X.A (truthy v) (TP X pins σ Q) X.xe s

def tOp (r:R2) (ta tb:TE):TE:=λσ H Q=>ta σ H λx H1=>tb σ H1 λy H2=>r x y H2 Q
def tUn (r:V->Hp->VK->Prop) (ta:TE):TE:=λσ H Q=>ta σ H λx H1=>r x H1 Q
def rI (C:Int->Int->Prop) (g:Int->Int->V):R2:=λx y H Q=>∃ i j,x=.int i/\y=.int j/\C i j/\Q (g i j) H
def rI0 (g:Int->Int->V):R2:=λx y H Q=>∃ i j,x=.int i/\y=.int j/\Q (g i j) H
def rU (g:Int->V):V->Hp->VK->Prop:=λx H Q=>∃ i,x=.int i/\Q (g i) H

section
variable {X:Cx} {a b c:Expr} {ta tb tc:TE} {pos:Pos}

theorem binT (ha:PE X a ta) (hb:PE X b tb) {pins:List (Addr × Obj)} {s:Shared} {σ:St} {H:Hp} {R:V->V->Hp->Prop} (I:Inv X pins σ H s)
   (h:ta σ H λx H1=>tb σ H1 λy H2=>R x y H2) {Q:Value->Shared->Prop} {f:Value->Value->Sem Value}
   (hf:∀ v u s2 x y H2,Inv X pins σ H2 s2->RelV x v->RelV y u->R x y H2->wpAny (model X.prog X.w) X.A (f v u) Q X.xe s2) :
   wpAny (model X.prog X.w) X.A (eval a X.env) (λv s₁=>wpAny (model X.prog X.w) X.A (eval b X.env) (λu s₂=>wpAny (model X.prog X.w) X.A (f v u) Q X.xe s₂) X.xe s₁) X.xe s:=by
 refine thn (ha pins s σ H _ I h) λv s1 ⟨x,H1,I1,r1,q1⟩=>?_
 refine thn (hb pins s1 σ H1 _ I1 q1) λu s2 ⟨y,H2,I2,r2,q2⟩=>?_
 exact hf v u s2 x y H2 I2 r1 r2 q2

theorem pe_op {op:Operator} {r:R2} (ho:OpR X (binaryOp op) r) (ha:PE X a ta) (hb:PE X b tb):PE X (.BinOp a op b pos) (tOp r ta tb):=by
 intro pins s σ H Q I h
 exact wpAny_BinOp (binT ha hb I h λv u s2 x y H2 I2 rx ry q=>ho pins s2 σ H2 x y v u Q I2 rx ry q)
theorem pe_un {op:UnaryOp} {r:V->Hp->VK->Prop} (ho:UnR X (unaryOp op) r) (ha:PE X a ta):PE X (.UnaryOp op a pos) (tUn r ta):=by
 intro pins s σ H Q I h
 exact UnaryOp_ (thn (ha pins s σ H _ I h) λv s1 ⟨x,H1,I1,r1,q1⟩=>ho pins s1 σ H1 x v Q I1 r1 q1)
theorem opI {f:Value->Value->Sem Value} {C:Int->Int->Prop} {g:Int->Int->Int}
   (rule:∀ (i j:Int) (t u:Tok) (s:Shared) (Q:Value->Shared->Prop) (E:Value->Shared->Prop),C i j->Q (.int (g i j) s.toks) { s with toks:=s.toks+1 }->wpAny (model X.prog X.w) X.A (f (.int i t) (.int j u)) Q E s) :
   OpR X f (rI C λi j=>.int (g i j)):=by
 intro pins s σ H x y v u Q I rx ry h
 obtain ⟨i,j,rfl,rfl,hc,q⟩:=h
 obtain ⟨t,rfl⟩:=rx
 obtain ⟨t',rfl⟩:=ry
 exact rule i j t t' s _ _ hc ⟨.int (g i j),H,I.tok _,⟨_,rfl⟩,q⟩
theorem opI0 {f:Value->Value->Sem Value} {g:Int->Int->Int}
   (rule:∀ (i j:Int) (t u:Tok) (s:Shared) (Q:Value->Shared->Prop) (E:Value->Shared->Prop),Q (.int (g i j) s.toks) { s with toks:=s.toks+1 }->wpAny (model X.prog X.w) X.A (f (.int i t) (.int j u)) Q E s) :
   OpR X f (rI0 λi j=>.int (g i j)):=by
 intro pins s σ H x y v u Q I rx ry h
 obtain ⟨i,j,rfl,rfl,q⟩:=h
 obtain ⟨t,rfl⟩:=rx
 obtain ⟨t',rfl⟩:=ry
 exact rule i j t t' s _ _ ⟨.int (g i j),H,I.tok _,⟨_,rfl⟩,q⟩
theorem opB0 {f:Value->Value->Sem Value} {g:Int->Int->Bool}
   (rule:∀ (i j:Int) (t u:Tok) (s:Shared) (Q:Value->Shared->Prop) (E:Value->Shared->Prop),Q (.bool (g i j)) s->wpAny (model X.prog X.w) X.A (f (.int i t) (.int j u)) Q E s) :
   OpR X f (rI0 λi j=>.bl (g i j)):=by
 intro pins s σ H x y v u Q I rx ry h
 obtain ⟨i,j,rfl,rfl,q⟩:=h
 obtain ⟨t,rfl⟩:=rx
 obtain ⟨t',rfl⟩:=ry
 exact rule i j t t' s _ _ ⟨.bl (g i j),H,I,rfl,q⟩

def CDiv (i j:Int):Prop:=0 < j/\j < 1073741824
def CDivN (i j:Int):Prop:=j≠0/\j.natAbs < 1073741824
def CPow (i j:Int):Prop:=0 <= j/\j <= 1000000/\i.natAbs < 2 ^ 64
def CMul (i j:Int):Prop:=(-(2 ^ 64) < i/\i < 2 ^ 64)\/(-(2 ^ 64) < j/\j < 2 ^ 64)
theorem CMul.ok {i j:Int} (h:CMul i j):IntMulOk i j:=by
 rcases h with ⟨h1,h2⟩ | ⟨h1,h2⟩
 · exact .of_left (intBits_le_64 h1 h2)
 · exact .of_right (intBits_le_64 h1 h2)
theorem op_add:OpR X (binaryOp .Add) (rI0 λi j=>.int (i+j)):=opI0 λ_ _ _ _ _ _ _ q=>add_int q
theorem op_sub:OpR X (binaryOp .Sub) (rI0 λi j=>.int (i - j)):=opI0 λ_ _ _ _ _ _ _ q=>sub_int q
theorem op_mul:OpR X (binaryOp .Mult) (rI CMul λi j=>.int (i * j)):=opI λ_ _ _ _ _ _ _ hc q=>mul_int q hc.ok
theorem op_mod:OpR X (binaryOp .Mod) (rI (λ_ j=>0 < j) λi j=>.int (i % j)):=opI λi j _ _ _ _ _ hc q=>by
 have h1:(0:Int) < j:=hc
 exact mod_int' (by omega) (by rw [Int.fmod_eq_emod_of_nonneg i (by omega)];exact q)
theorem op_pow:OpR X (binaryOp .Pow) (rI CPow λi j=>.int (i ^ j.toNat)):=opI λ_ _ _ _ _ _ _ hc q=>pow_int_small hc.1 hc.2.1 hc.2.2 q
theorem unI {f:Value->Sem Value} {g:Int->Int}
   (rule:∀ (i:Int) (t:Tok) (s:Shared) (Q:Value->Shared->Prop) (E:Value->Shared->Prop),Q (.int (g i) s.toks) { s with toks:=s.toks+1 }->wpAny (model X.prog X.w) X.A (f (.int i t)) Q E s) :
   UnR X f (rU λi=>.int (g i)):=by
 intro pins s σ H x v Q I rx h
 obtain ⟨i,rfl,q⟩:=h
 obtain ⟨t,rfl⟩:=rx
 exact rule i t s _ _ ⟨.int (g i),H,I.tok _,⟨_,rfl⟩,q⟩
theorem un_neg:UnR X (unaryOp .USub) (rU λi=>.int (-i)):=unI λ_ _ _ _ _ q=>neg_int q
end

def scal:V->V->Bool
 | .non,.non=>true | .non,.int _=>true | .int _,.non=>true | .non,.bl _=>true | .bl _,.non=>true | .non,.str _=>true | .str _,.non=>true
 | .int _,.int _=>true | .bl _,.bl _=>true | .str _,.str _=>true | .byt _,.byt _=>true
 | .int _,.str _=>true | .str _,.int _=>true | .bl _,.str _=>true | .str _,.bl _=>true
 | _,_=>false
def rEq:R2:=λx y H Q=>scal x y=true/\Q (.bl (decide (x=y))) H
def rNe:R2:=λx y H Q=>scal x y=true/\Q (.bl (!decide (x=y))) H

theorem dec_int {i j:Int}:decide (V.int i=V.int j)=(i == j):=by
 rw [Bool.eq_iff_iff]
 simp
theorem dec_bl {i j:Bool}:decide (V.bl i=V.bl j)=(i == j):=by
 rw [Bool.eq_iff_iff]
 simp
theorem dec_str {i j:Str}:decide (V.str i=V.str j)=(i == j):=by
 rw [Bool.eq_iff_iff]
 simp
theorem dec_byt {i j:Array UInt8}:decide (V.byt i=V.byt j)=(i.toList == j.toList):=by
 rw [Bool.eq_iff_iff]
 cases i
 cases j
 simp

section
variable {X:Cx} {a b c:Expr} {ta tb tc:TE} {pos:Pos}
theorem fin_bl {pins:List (Addr × Obj)} {σ:St} {H:Hp} {s:Shared} {Q:VK} {k k':Bool} (I:Inv X pins σ H s) (q:Q (.bl k) H) (e:k=k'):EP X pins σ Q (.bool k') s:=by
 subst e
 exact ⟨.bl k,H,I,rfl,q⟩
theorem op_eq:OpR X (compareOp .Eq) rEq:=by
 intro pins s σ H x y v u Q I rx ry h
 obtain ⟨hs,q⟩:=h
 cases x with
 | non =>
   cases rx
   cases y with
   | non=>cases ry;exact PySem.EqNone.eq_none_none (fin_bl I q (by simp))
   | bl j=>cases ry;exact PySem.EqNone.eq_none_bool (fin_bl I q (by simp))
   | int j=>obtain ⟨t',rfl⟩:=ry;exact PySem.EqNone.eq_none_int (fin_bl I q (by simp))
   | str j=>obtain ⟨t',rfl⟩:=ry;exact PySem.EqNone.eq_none_str (fin_bl I q (by simp))
   | _=>exact absurd (show false=true from hs) Bool.false_ne_true
 | bl i =>
   cases rx
   cases y with
   | non=>cases ry;exact PySem.EqNone.eq_bool_none (fin_bl I q (by simp))
   | bl j=>cases ry;exact eq_bool (fin_bl I q dec_bl)
   | str j=>obtain ⟨t',rfl⟩:=ry;exact PySem.EqMixed.eq_bool_str (fin_bl I q (by simp))
   | _=>exact absurd (show false=true from hs) Bool.false_ne_true
 | int i =>
   obtain ⟨t,rfl⟩:=rx
   cases y with
   | non=>cases ry;exact PySem.EqNone.eq_int_none (fin_bl I q (by simp))
   | int j=>obtain ⟨t',rfl⟩:=ry;exact eq_int (fin_bl I q dec_int)
   | str j=>obtain ⟨t',rfl⟩:=ry;exact PySem.EqMixed.eq_int_str (fin_bl I q (by simp))
   | _=>exact absurd (show false=true from hs) Bool.false_ne_true
 | str i =>
   obtain ⟨t,rfl⟩:=rx
   cases y with
   | non=>cases ry;exact PySem.EqNone.eq_str_none (fin_bl I q (by simp))
   | bl j=>cases ry;exact PySem.EqMixed.eq_str_bool (fin_bl I q (by simp))
   | int j=>obtain ⟨t',rfl⟩:=ry;exact PySem.EqMixed.eq_str_int (fin_bl I q (by simp))
   | str j=>obtain ⟨t',rfl⟩:=ry;exact eq_str (fin_bl I q dec_str)
   | _=>exact absurd (show false=true from hs) Bool.false_ne_true
 | byt i =>
   obtain ⟨t,rfl⟩:=rx
   cases y with
   | byt j=>obtain ⟨t',rfl⟩:=ry;exact PySem.W.eq_bytes (fin_bl I q dec_byt)
   | _=>exact absurd (show false=true from hs) Bool.false_ne_true
 | _=>cases y<;>exact absurd (show false=true from hs) Bool.false_ne_true
theorem op_ne:OpR X (compareOp .NotEq) rNe:=by
 intro pins s σ H x y v u Q I rx ry h
 obtain ⟨hs,q⟩:=h
 cases x with
 | non =>
   cases rx
   cases y with
   | non=>cases ry;exact PySem.EqNone.ne_none_none (fin_bl I q (by simp))
   | bl j=>cases ry;exact PySem.EqNone.ne_none_bool (fin_bl I q (by simp))
   | int j=>obtain ⟨t',rfl⟩:=ry;exact PySem.EqNone.ne_none_int (fin_bl I q (by simp))
   | str j=>obtain ⟨t',rfl⟩:=ry;exact PySem.EqNone.ne_none_str (fin_bl I q (by simp))
   | _=>exact absurd (show false=true from hs) Bool.false_ne_true
 | bl i =>
   cases rx
   cases y with
   | non=>cases ry;exact PySem.EqNone.ne_bool_none (fin_bl I q (by simp))
   | bl j=>cases ry;exact ne_bool (fin_bl I q (congrArg not dec_bl))
   | str j=>obtain ⟨t',rfl⟩:=ry;exact PySem.EqMixed.ne_bool_str (fin_bl I q (by simp))
   | _=>exact absurd (show false=true from hs) Bool.false_ne_true
 | int i =>
   obtain ⟨t,rfl⟩:=rx
   cases y with
   | non=>cases ry;exact PySem.EqNone.ne_int_none (fin_bl I q (by simp))
   | int j=>obtain ⟨t',rfl⟩:=ry;exact ne_int (fin_bl I q (congrArg not dec_int))
   | str j=>obtain ⟨t',rfl⟩:=ry;exact PySem.EqMixed.ne_int_str (fin_bl I q (by simp))
   | _=>exact absurd (show false=true from hs) Bool.false_ne_true
 | str i =>
   obtain ⟨t,rfl⟩:=rx
   cases y with
   | non=>cases ry;exact PySem.EqNone.ne_str_none (fin_bl I q (by simp))
   | bl j=>cases ry;exact PySem.EqMixed.ne_str_bool (fin_bl I q (by simp))
   | int j=>obtain ⟨t',rfl⟩:=ry;exact PySem.EqMixed.ne_str_int (fin_bl I q (by simp))
   | str j=>obtain ⟨t',rfl⟩:=ry;exact ne_str (fin_bl I q (congrArg not dec_str))
   | _=>exact absurd (show false=true from hs) Bool.false_ne_true
 | byt i =>
   obtain ⟨t,rfl⟩:=rx
   cases y with
   | byt j=>obtain ⟨t',rfl⟩:=ry;exact PySem.W.ne_bytes (fin_bl I q (congrArg not dec_byt))
   | _=>exact absurd (show false=true from hs) Bool.false_ne_true
 | _=>cases y<;>exact absurd (show false=true from hs) Bool.false_ne_true

theorem op_lt:OpR X (compareOp .Lt) (rI0 λi j=>.bl (decide (i < j))):=opB0 λ_ _ _ _ _ _ _ q=>lt_int q
theorem op_le:OpR X (compareOp .LtE) (rI0 λi j=>.bl (decide (i <= j))):=opB0 λ_ _ _ _ _ _ _ q=>le_int q
theorem op_gt:OpR X (compareOp .Gt) (rI0 λi j=>.bl (decide (j < i))):=opB0 λ_ _ _ _ _ _ _ q=>gt_int q
theorem op_ge:OpR X (compareOp .GtE) (rI0 λi j=>.bl (decide (j <= i))):=opB0 λ_ _ _ _ _ _ _ q=>ge_int q
theorem op_isN:OpR X (compareOp .Is) (λx y H Q=>y=.non/\Q (.bl (decide (x=.non))) H):=by
 intro pins s σ H x y v u Q I rx ry h
 obtain ⟨rfl,q⟩:=h
 cases ry
 refine is_none_gen (fin_bl I q ?_)
 cases x<;>first
   | (cases rx;rfl)
   | (obtain ⟨t,rfl⟩:=rx;rfl)
theorem op_notN:OpR X (compareOp .IsNot) (λx y H Q=>y=.non/\Q (.bl (!decide (x=.non))) H):=by
 intro pins s σ H x y v u Q I rx ry h
 obtain ⟨rfl,q⟩:=h
 cases ry
 refine isnot_none_gen (fin_bl I q ?_)
 cases x<;>first
   | (cases rx;rfl)
   | (obtain ⟨t,rfl⟩:=rx;rfl)

def isObj:HO->Bool
 | .lst _=>true
 | .ins _ _ _=>true
 | _=>false
theorem OpR.or {f:Value->Value->Sem Value} {r r':R2} (h:OpR X f r) (h':OpR X f r'):OpR X f (λx y H Q=>r x y H Q\/r' x y H Q):=by
 intro pins s σ H x y v u Q I rx ry q
 rcases q with q | q
 · exact h pins s σ H x y v u Q I rx ry q
 · exact h' pins s σ H x y v u Q I rx ry q

theorem nomark (b:Expr) {op:CmpOp} (h:op≠.In:=by decide) (h2:op≠.NotIn:=by decide):behindInMarks op b=false:=by
 have e1:(op == CmpOp.In)=false:=by cases op<;>first | rfl | exact absurd rfl h
 have e2:(op == CmpOp.NotIn)=false:=by cases op<;>first | rfl | exact absurd rfl h2
 cases b<;>simp [behindInMarks,e1,e2]
theorem pe_cmpR {op:CmpOp} {r:R2} (ho:OpR X (compareOp op) r) (ha:PE X a ta) (hb:PE X b tb) (hm:behindInMarks op b=false):PE X (.Compare a [op] [b] pos) (tOp r ta tb):=by
 intro pins s σ H Q I h
 exact wpAny_Compare1 (binT ha hb I h λv u s2 x y H2 I2 rx ry q=>ho pins s2 σ H2 x y v u Q I2 rx ry q) hm
def tTest (t:TE):TT:=λσ H Q=>t σ H λx H'=>∃ k,x=.bl k/\Q k H'
theorem pt_cmpR {op:CmpOp} {r:R2} (ho:OpR X (compareOp op) r) (ha:PE X a ta) (hb:PE X b tb) (hm:behindInMarks op b=false):PT X (.Compare a [op] [b] pos) (tTest (tOp r ta tb)):=by
 intro pins s σ H Q I h
 refine wpAny_isTrue_Compare1 (thn (ha pins s σ H _ I h) λv s1 ⟨x,H1,I1,r1,q1⟩=>thn (hb pins s1 σ H1 _ I1 q1) λu s2 ⟨y,H2,I2,r2,q2⟩ =>
   thn (ho pins s2 σ H2 x y v u _ I2 r1 r2 q2) λc s3 ⟨z,H3,I3,r3,k,e,q3⟩=>?_) hm
 subst e
 cases r3
 exact wpAny_truthy_bool ⟨H3,I3,q3⟩
def tChain (r r':R2) (ta tb tc:TE):TE:=λσ H Q=>ta σ H λx H1=>tb σ H1 λy H2=>r x y H2 λz H3=>∃ k,z=.bl k /\
 (if k=true then tc σ H3 λw' H4=>r' y w' H4 Q else Q (.bl false) H3)
def TruV (K:PySem.W.Frag) (x:V) (H:Hp) (k:Bool):Prop :=
 match x with
 | .non=>k=false
 | .bl b=>k=b
 | .int i=>k=(i != 0)
 | .str y=>y.length <= sizeLine/\k=((y.length:Int) != 0)
 | .byt y=>y.size <= sizeLine/\k=((y.size:Int) != 0)
 | .ref p=>(∃ xs,SqL K H p xs/\k=!xs.isEmpty)\/(∃ xs,SqT K H p xs/\k=!xs.isEmpty)\/∃ kvs,H p=some (.dK kvs)/\k=!kvs.isEmpty
 | _=>False
theorem isEmpty_kv {κ:Type} {kvs:List (κ × V)} {vs:List (κ × Value)} (r:KV kvs vs):(!vs.isEmpty)=!kvs.isEmpty:=by
 cases r<;>rfl
theorem isEmpty_of {xs:List V} {its:List Value} (r:Vals xs its):(!its.toArray.isEmpty)=!xs.isEmpty:=by
 cases r<;>simp
theorem line63:(sizeLine:Nat) < 2 ^ 63:=by rw [sizeLine_eq];decide
theorem tru_ok:TruR X (λx H Q=>∃ k,TruV X.K x H k/\Q k H):=by
 intro pins s σ H x v Q I rx h
 obtain ⟨k,e,q⟩:=h
 have hl:=line63
 have hs:sizeLine=16777216:=sizeLine_eq
 cases x with
 | non =>
   cases rx
   have e':k=false:=e
   subst e'
   exact truthy_none ⟨H,I,q⟩
 | bl b =>
   cases rx
   have e':k=b:=e
   subst e'
   exact wpAny_truthy_bool ⟨H,I,q⟩
 | int i =>
   obtain ⟨t,rfl⟩:=rx
   have e':k=(i != 0):=e
   subst e'
   exact PySem.P.truthy_int ⟨H,I,q⟩
 | str y =>
   obtain ⟨t,rfl⟩:=rx
   obtain ⟨hy,e'⟩:y.length <= sizeLine/\k=((y.length:Int) != 0):=e
   subst e'
   exact PySem.P.truthy_str (by omega) ⟨H,I.tok _,q⟩
 | byt y =>
   obtain ⟨t,rfl⟩:=rx
   obtain ⟨hy,e'⟩:y.size <= sizeLine/\k=((y.size:Int) != 0):=e
   subst e'
   exact PySem.W.truthy_bytes (by omega) ⟨H,I.tok _,q⟩
 | ref p =>
   cases rx
   have e':(∃ xs,SqL X.K H p xs/\k=!xs.isEmpty)\/(∃ xs,SqT X.K H p xs/\k=!xs.isEmpty)\/∃ kvs,H p=some (.dK kvs)/\k=!kvs.isEmpty:=e
   rcases e' with ⟨xs,hx,e'⟩ | ⟨xs,hx,e'⟩ | ⟨kvs,hx,e'⟩
   · subst e'
     obtain ⟨its,r,pl,hz⟩:=I.list hx
     have hlen:=r.length
     exact wpAny_truthy_list pl.isList (by simp only [List.size_toArray];omega) ⟨H,I.tok _,by rw [isEmpty_of r];exact q⟩
   · subst e'
     obtain ⟨its,r,pl,hz⟩:=I.tuple hx
     have hlen:=r.length
     exact truthy_tuple pl (by simp only [List.size_toArray];omega) ⟨H,I.tok _,by rw [isEmpty_of r];exact q⟩
   · subst e'
     obtain ⟨hz,hS,vs,r,m⟩:kvs.length <= sizeLine/\(p == sysModules)=false/\∃ vs,KV kvs vs/\s.heap.DictOf (mixKind X.prog X.w) p vs:=I.hok p _ hx
     have hlen:kvs.length=vs.length:=Paired.length r
     exact wpAny_truthy_dict hS m (by omega) ⟨H,I.tok _,by rw [isEmpty_kv r];exact q⟩
 | _=>exact (show False from e).elim
theorem pt_truth (ha:PE X a ta) (he:∀ whole,isTrue a X.env whole=(do let v ← whole;standAt a.pos;holding [v] (truthy v))) :
   PT X a (λσ H Q=>ta σ H λx H'=>∃ k,TruV X.K x H' k/\Q k H'):=by
 intro pins s σ H Q I h
 exact isTrue_plain (thn (ha pins s σ H _ I h) λv s1 ⟨x,H1,I1,r1,q1⟩=>tru_ok pins s1 σ H1 x v Q I1 r1 q1) (he _)

def PlainIxT (b:Expr):Prop:=∀ o i,subscripted b false o i=operate [o,i] (getItem o i)
theorem vals1 {x:V} {us:List Value} (r:Vals [x] us):∃ u,us=[u]/\RelV x u:=by
 cases r with
 | cons r1 r2=>cases r2;exact ⟨_,rfl,r1⟩
theorem vals2 {x y:V} {us:List Value} (r:Vals [x,y] us):∃ u w',us=[u,w']/\RelV x u/\RelV y w':=by
 cases r with
 | cons r1 r2 =>
   cases r2 with
   | cons r3 r4=>cases r4;exact ⟨_,_,rfl,r1,r3⟩
theorem call_min2 (hc:X.calm=true):CallR X (.builtin "min") (λxs H Q=>∃ i j,xs=[.int i,.int j]/\Q (.int (if j < i then j else i)) H):=by
 intro pins s σ H xs us Q I r h
 obtain ⟨i,j,rfl,q⟩:=h
 obtain ⟨u,w',rfl,⟨t,rfl⟩,⟨t',rfl⟩⟩:=vals2 r
 refine min_two_ints (I.ok.hd hc) λh' tk k=>⟨_,H,I.kept k,?_,q⟩
 by_cases hj:j < i
 · rw [if_pos hj,if_pos hj];exact ⟨_,rfl⟩
 · rw [if_neg hj,if_neg hj];exact ⟨_,rfl⟩
theorem call_int1:CallR X (.type "int") (λxs H Q=>(∃ i,xs=[.int i]/\Q (.int i) H)\/∃ k,xs=[.bl k]/\Q (.int (if k then 1 else 0)) H):=by
 intro pins s σ H xs us Q I r h
 rcases h with ⟨i,rfl,q⟩ | ⟨k,rfl,q⟩
 · obtain ⟨u,rfl,t,rfl⟩:=vals1 r
   exact call_int_int ⟨.int i,H,I,⟨_,rfl⟩,q⟩
 · obtain ⟨u,rfl,r1⟩:=vals1 r
   cases r1
   exact call_int_bool ⟨.int (if k then 1 else 0),H,I.tok _,⟨_,rfl⟩,q⟩
def LenV (K:PySem.W.Frag) (x:V) (H:Hp) (n:Nat):Prop :=
 match x with
 | .str y=>y.length <= sizeLine/\n=y.length
 | .byt y=>y.size <= sizeLine/\n=y.size
 | .ref p=>(∃ xs,SqL K H p xs/\n=xs.length)\/∃ xs,SqT K H p xs/\n=xs.length
 | _=>False
end
end L2

namespace L2
open PySem PySem.Spec PyProof.Rows

structure ObjM (h:Heap) (x dx C:Addr) (mA:Str->Option Value):Prop where
 obj:h.get? x=some (PySem.W.instObj C dx)
 ns:h.Ns1 dx mA
 ne:dx≠x

theorem lookIn_ns {h:Heap} {dx:Addr} {mA:Str->Option Value} (n:h.Ns1 dx mA):∃ od,h.get? dx=some od/\∀ name,PySem.W.lookIn name od=some (mA name):=by
 obtain ⟨o,es,ep,ho,hd,hk,_,hm⟩:=n
 refine ⟨o,ho,λname=>?_⟩
 have e:=hm name
 unfold nsFind findBy at e
 rw [← Array.find?_toList] at e
 unfold PySem.W.lookIn
 rw [hd]
 dsimp only
 split
 · rename_i y q
   rw [q] at e
   exact congrArg some e
 · rename_i q
   rw [q] at e
   have a:es.toList.any (·.refKey)=false:=by
     rw [List.any_eq_false]
     intro y hy
     obtain ⟨z,t,hkey⟩:=hk y (Array.mem_toList_iff.mp hy)
     simp [DictEntry.refKey,hkey]
   have a':¬ es.toList.any (·.refKey)=true:=by rw [a];exact Bool.false_ne_true
   rw [if_neg a']
   exact congrArg some e

theorem ObjM.look {h:Heap} {x dx C:Addr} {mA:Str->Option Value} (I:ObjM h x dx C mA):∃ od,PySem.W.InstAt h x (PySem.W.instObj C dx) C (some od)/\∀ name,PySem.W.lookIn name od=some (mA name) :=
 let ⟨od,ho,hl⟩:=lookIn_ns I.ns
 ⟨od,⟨I.obj,rfl,rfl,ho⟩,hl⟩

section
variable {prog:Program} {w:World} {A:Around} {E:Value->Shared->Prop} {s:Shared} {K:PySem.W.Frag} {x dx C f:Addr} {mA:Str->Option Value} {name:Str} {v:Value}

theorem get_map {expr:Bool} {Q:Value->Shared->Prop} (X:K.In s.heap) (I:ObjM s.heap x dx C mA) (hg:PySem.W.plainGet K C name=true) (hh:PySem.W.hasDictIn K C=true)
   (ha:PySem.W.findIn K (.ref C) name=some none) (hv:mA name=some v) (hv':PySem.W.handedIn v=true) (h:Q v { s with toks:=s.toks+1 }) :
   wpAny (model prog w) A (getAttr (.ref x) name expr) Q E s:=by
 obtain ⟨od,J,hl⟩:=I.look
 exact PySem.W.get_value X J (PySem.W.plainGet_of hg).1 (PySem.W.findObj_own hh ha rfl (by rw [hl,hv])) hv' h

theorem get_meth {pl:Sem Bool} {Q:Value × List Value->Shared->Prop} (X:K.In s.heap) (I:ObjM s.heap x dx C mA) (hg:PySem.W.plainGet K C name=true)
   (hf:PySem.W.findIn K (.ref C) name=some (some (.ref f))) (ht:PySem.W.isFn K (.ref f)=true) (hv:mA name=none) (h:Q (.ref f,[.ref x]) s) :
   wpAny (model prog w) A (getMethod (.ref x) name pl) Q E s:=by
 obtain ⟨od,J,hl⟩:=I.look
 exact PySem.W.method_fn X J (PySem.W.plainGet_of hg).1 (PySem.W.plainGet_of hg).2 hf (beq_iff_eq.mp ht) (by show (PySem.W.lookIn name od).map (·.isSome)=some false;rw [hl,hv];rfl) h

theorem set_map {ns:List Str} {Q:Unit->Shared->Prop} (X:K.In s.heap) (I:ObjM s.heap x dx C mA)
   (hs:PySem.W.findIn K (.ref C) "__setattr__"=some (some (.builtin "object.__setattr__"))) (hp:PySem.W.plainOver K C=true) (ht:PySem.W.takerIn K C name=some none) (hh:PySem.W.hasDictIn K C=true)
   (hw:PySem.Within mA ns) (hsz:ns.length <= sizeLine)
   (h:∀ h',ObjM h' x dx C (λy=>if y=name then some v else mA y)->Heap.SameBut dx s.heap h'->Q () { s with heap:=h',toks:=s.toks+2 }) :
   wpAny (model prog w) A (setAttr (.ref x) name v) Q E s:=by
 obtain ⟨od,J,hl⟩:=I.look
 refine PySem.W.set_plain X J hs (PySem.W.osa_open (s:={ s with toks:=s.toks+1 }) (r:=none) X J hp ht λb=>?_)
 obtain ⟨cd,hc,hd'⟩:=PySem.W.any_some hh
 have hx:s.heap.get? x=some ⟨.ref C,some dx,.plain,#[]⟩:=I.obj
 refine wpAny_bind (wpAny_pure (wpAny_bind (wpAny_bind (wpAny_loadPart hx (wpAny_bind (PySem.W.Looks.here (s:={ s with toks:=s.toks+1 }) (PySem.W.looks_clsIn X hc) ?_))))))
 rw [hd']
 refine wpAny_pure (a:=some dx) (wpAny_bind (wpAny_pure (wpAny_bind ?_)))
 refine wpAny_nsSet1 (s:={ s with toks:=s.toks+1 }) I.ns λh' hn2 hs2=>?_
 obtain ⟨oD,esD,epD,hoD,hdD,hcD⟩:=hn2.count (PySem.Within.cons name v hw)
 refine wpAny_bind (wpAny_lookBehind hoD (by rw [hdD];exact pastItsLine_dict (Nat.le_trans hcD (by rw [List.length_cons];omega))) ?_)
 exact wpAny_pure (h _ ⟨(hs2.2 _ (Ne.symm I.ne)).trans I.obj,hn2,I.ne⟩ hs2)

theorem make_map {R:Result->Shared->Prop} {vs:List Value} {kw:List (Str × Value)} (X:K.In s.heap) (hm:PySem.W.makesIn K C=true)
   (hi:PySem.W.findIn K (.ref C) "__init__"=some (some (.ref f))) (hf:PySem.W.typeIn K (.ref f)=some (.type "function"))
   (h:codeAny (model prog w) (A.under (.builtin "type.__call__" ⟨.ref C :: vs,kw⟩)) (.call (.ref f) ⟨.ref (s.heap.objs.size+1) :: vs,kw⟩) (PySem.W.InitBack (s.heap.objs.size+1) R)
     { s with heap:=(s.heap.push PySem.W.emptyDict).push (PySem.W.instObj C s.heap.objs.size) }) :
   codeAny (model prog w) A (.call (.ref C) ⟨vs,kw⟩) R s:=by
 obtain ⟨hh,g,d,t,os⟩:=s
 exact PySem.W.make_core (PySem.W.makes_of X hm) (PySem.W.looks_findIn X hi) (λself=>PySem.W.bind_fn X self hf) (.inl rfl) h
end

def putF (f:Str) (v:V):List (Str × V)->List (Str × V)
 | []=>[(f,v)]
 | (g,x) :: r=>if g=f then (g,v) :: r else (g,x) :: putF f v r
theorem lookup_putF (f g:Str) (v:V):∀ fs:List (Str × V),(putF f v fs).lookup g=if g=f then some v else fs.lookup g
 | []=>by
   show List.lookup g [(f,v)]=_
   by_cases h:g=f
   · have hb:(g == f)=true:=beq_iff_eq.mpr h
     simp only [List.lookup,hb,if_pos h]
   · have hb:(g == f)=false:=beq_eq_false_iff_ne.mpr h
     simp only [List.lookup,hb,if_neg h]
 | (k,x) :: r=>by
   have ih:=lookup_putF f g v r
   rw [show putF f v ((k,x) :: r)=(if k=f then (k,v) :: r else (k,x) :: putF f v r) from rfl]
   by_cases hk:k=f
   · rw [if_pos hk]
     by_cases h:g=k
     · have hb:(g == k)=true:=beq_iff_eq.mpr h
       simp only [List.lookup,hb,if_pos (h.trans hk)]
     · have hb:(g == k)=false:=beq_eq_false_iff_ne.mpr h
       simp only [List.lookup,hb,if_neg (λe:g=f=>h (e.trans hk.symm))]
   · rw [if_neg hk]
     by_cases h:g=k
     · have hb:(g == k)=true:=beq_iff_eq.mpr h
       simp only [List.lookup,hb,if_neg (λe:g=f=>hk (h.symm.trans e))]
     · have hb:(g == k)=false:=beq_eq_false_iff_ne.mpr h
       simp only [List.lookup,hb]
       exact ih
theorem keys_putF (f:Str) (v:V):∀ fs:List (Str × V),f∈(putF f v fs).map (·.1)/\∀ g,g∈fs.map (·.1)->g∈(putF f v fs).map (·.1)
 | []=>⟨by simp [putF],λg h=>by simp at h⟩
 | (k,x) :: r=>by
   obtain ⟨i1,i2⟩:=keys_putF f v r
   rw [show putF f v ((k,x) :: r)=(if k=f then (k,v) :: r else (k,x) :: putF f v r) from rfl]
   by_cases hk:k=f
   · rw [if_pos hk]
     subst hk
     exact ⟨by simp,λg h=>by simpa using h⟩
   · rw [if_neg hk]
     refine ⟨?_,λg h=>?_⟩
     · rw [List.map_cons]
       exact List.mem_cons_of_mem _ i1
     · rw [List.map_cons] at h ⊢
       rcases List.mem_cons.mp h with e | e
       · exact List.mem_cons.mpr (.inl e)
       · exact List.mem_cons_of_mem _ (i2 g e)
theorem length_putF (f:Str) (v:V):∀ fs:List (Str × V),(putF f v fs).length <= fs.length+1
 | []=>by simp [putF]
 | (k,x) :: r=>by
   have ih:=length_putF f v r
   rw [show putF f v ((k,x) :: r)=(if k=f then (k,v) :: r else (k,x) :: putF f v r) from rfl]
   by_cases hk:k=f
   · rw [if_pos hk,List.length_cons,List.length_cons];omega
   · rw [if_neg hk,List.length_cons,List.length_cons];omega

theorem RelO.some_of {v:V} {o:Option Value} (r:RelO (some v) o):∃ u,o=some u/\RelV v u:=by
 cases o with
 | none=>exact (show False from r).elim
 | some u=>exact ⟨u,rfl,r⟩
theorem RelO.none_of {o:Option Value} (r:RelO none o):o=none:=by
 cases o with
 | none=>rfl
 | some u=>exact (show False from r).elim
theorem handed_of {v:V} {u:Value} (r:RelV v u):PySem.W.handedIn u=true:=by
 cases v with
 | non=>cases (show u=Value.none from r);rfl
 | bl b=>cases (show u=Value.bool b from r);rfl
 | int i=>obtain ⟨t,e⟩:=(show ∃ t,u=Value.int i t from r);cases e;rfl
 | str x=>obtain ⟨t,e⟩:=(show ∃ t,u=Value.str x t from r);cases e;rfl
 | byt b=>obtain ⟨t,e⟩:=(show ∃ t,u=Value.bytes b t from r);cases e;rfl
 | flt b=>obtain ⟨t,e⟩:=(show ∃ t,u=Value.float b t from r);cases e;rfl
 | ref a=>cases (show u=Value.ref a from r);rfl
 | ty n=>cases (show u=Value.type n from r);rfl

section
variable {P:Program} {w:World} {H H':Hp} {h h':Heap} {a C dx:Addr} {fs fs':List (Str × V)}
theorem ins_get (hok:HOk P w H h) (e:H a=some (.ins C dx fs)):∃ mA,ObjM h a dx C mA/\(∀ f,RelO (fs.lookup f) (mA f))/\PySem.Within mA (fs.map (·.1))/\fs.length <= 1000/\H dx=some (.own a):=by
 obtain ⟨d,z,ne,ob,mA,n,r,q⟩:=(show ObjOk P w H h a (.ins C dx fs) from hok a _ e)
 exact ⟨mA,⟨ob,n,ne⟩,r,q,z,d⟩
end

structure Cls (K:PySem.W.Frag) (C:Addr):Prop where
 pg:PySem.W.plainGet K C Str.empty=true
 hd:PySem.W.hasDictIn K C=true
 po:PySem.W.plainOver K C=true
 sa:PySem.W.findIn K (.ref C) "__setattr__"=some (some (.builtin "object.__setattr__"))
theorem Cls.get {K:PySem.W.Frag} {C:Addr} (c:Cls K C) (f:Str):PySem.W.plainGet K C f=true:=c.pg
def NoAttr (K:PySem.W.Frag) (C:Addr) (f:Str):Prop:=PySem.W.findIn K (.ref C) f=some none
theorem NoAttr.taker {K:PySem.W.Frag} {C:Addr} {f:Str} (n:NoAttr K C f):PySem.W.takerIn K C f=some none:=by
 unfold PySem.W.takerIn
 rw [show PySem.W.findIn K (.ref C) f=some none from n]
 rfl
structure Con (K:PySem.W.Frag) (C:Addr) (f:Str) (v:V) (u:Value):Prop where
 at_:PySem.W.findIn K (.ref C) f=some (some u)
 rel:RelV v u
 get:PySem.W.specialIn K u "__get__"=some none
 cp:PySem.W.copiedNames.contains f=false
structure Meth (K:PySem.W.Frag) (C:Addr) (m:Str) (f:Addr):Prop where
 at_:PySem.W.findIn K (.ref C) m=some (some (.ref f))
 fn:PySem.W.isFn K (.ref f)=true
 kp:PySem.W.keepIn K (.ref f)=true

section
variable {X:Cx} {pins:List (Addr × Obj)} {σ:St} {H:Hp} {s:Shared} {a C dx:Addr} {fs:List (Str × V)} {f:Str} {v:V} {A:Around} {E:Value->Shared->Prop}

theorem getattr_ok {b:Bool} {Q:Value->Shared->Prop} (I:Inv X pins σ H s) (e:H a=some (.ins C dx fs)) (c:Cls X.K C) (n:NoAttr X.K C f) (l:fs.lookup f=some v)
   (h:∀ u s',Inv X pins σ H s'->RelV v u->Q u s'):wpAny (model X.prog X.w) A (getAttr (.ref a) f b) Q E s:=by
 obtain ⟨mA,O,r,_,_,_⟩:=ins_get I.hok e
 obtain ⟨u,hu,ru⟩:=RelO.some_of (v:=v) (o:=mA f) (by rw [← l];exact r f)
 exact get_map I.kIn O (c.get f) c.hd n hu (handed_of ru) (h u _ (I.tok _) ru)

theorem getmeth_ok {m:Str} {g:Addr} {pl:Sem Bool} {Q:Value × List Value->Shared->Prop} (I:Inv X pins σ H s) (e:H a=some (.ins C dx fs)) (c:Cls X.K C) (k:Meth X.K C m g) (l:fs.lookup m=none)
   (h:Q (.ref g,[.ref a]) s):wpAny (model X.prog X.w) A (getMethod (.ref a) m pl) Q E s:=by
 obtain ⟨mA,O,r,_,_,_⟩:=ins_get I.hok e
 have hn:mA m=none:=RelO.none_of (by rw [← l];exact r m)
 exact get_meth I.kIn O (c.get m) k.at_ k.fn hn h

theorem setattr_ok {y:V} {u:Value} {Q:Unit->Shared->Prop} (I:Inv X pins σ H s) (e:H a=some (.ins C dx fs)) (c:Cls X.K C) (n:NoAttr X.K C f) (hl:fs.length < 1000) (ry:RelV y u)
   (h:∀ s',Inv X pins σ (upd H a (.ins C dx (putF f y fs))) s'->Q () s'):wpAny (model X.prog X.w) A (setAttr (.ref a) f u) Q E s:=by
 obtain ⟨mA,O,r,wi,_,ho⟩:=ins_get I.hok e
 have hz:(fs.map (·.1)).length <= sizeLine:=by rw [List.length_map,sizeLine_eq];omega
 refine set_map I.kIn O c.sa c.po n.taker c.hd wi hz λh' O' sb=>h _ ?_
 have hd:∃ o,h'.get? dx=some o:=let ⟨o,_,_,e',_⟩:=O'.ns;⟨o,e'⟩
 refine I.write (x:=a) (e:=dx) (by rw [e];exact True.intro) (.inr ho) (λb q hb z=>(sb.2 b hb).trans z) hd ?_
 refine ⟨by rw [upd_ne O.ne];exact ho,?_,O.ne,O'.obj,_,O'.ns,λg=>?_,λg hg=>?_⟩
 · have:=length_putF f y fs;omega
 · show RelO ((putF f y fs).lookup g) (if g=f then some u else mA g)
   rw [lookup_putF]
   by_cases q:g=f
   · rw [if_pos q,if_pos q];exact ry
   · rw [if_neg q,if_neg q];exact r g
 · by_cases q:g=f
   · rw [q];exact (keys_putF f y fs).1
   · refine (keys_putF f y fs).2 g (wi g λz=>hg ?_)
     show (if g=f then some u else mA g)=none
     rw [if_neg q];exact z

theorem Inv.made (I:Inv X pins σ H s):Inv X pins σ (upd (upd H s.heap.objs.size (.own (s.heap.objs.size+1))) (s.heap.objs.size+1) (.ins C s.heap.objs.size []))
   { s with heap:=(s.heap.push PySem.W.emptyDict).push (PySem.W.instObj C s.heap.objs.size) }:=by
 have e1:(s.heap.push PySem.W.emptyDict).get? s.heap.objs.size=some PySem.W.emptyDict:=Heap.get?_push_size s.heap rfl
 have e2:((s.heap.push PySem.W.emptyDict).push (PySem.W.instObj C s.heap.objs.size)).get? (s.heap.objs.size+1)=some (PySem.W.instObj C s.heap.objs.size):=by
   have:=Heap.get?_push_size (s.heap.push PySem.W.emptyDict) (o:=PySem.W.instObj C s.heap.objs.size) rfl
   rwa [Heap.size_push] at this
 have e3:(s.heap.push PySem.W.emptyDict).Ns s.heap.objs.size (λ_=>none):=⟨PySem.W.emptyDict,#[],_,e1,rfl,(λe he=>absurd he (by simp)),λ_=>rfl⟩
 have I1:=I.laid (a:=s.heap.objs.size) (o:=.own (s.heap.objs.size+1)) (h':=s.heap.push PySem.W.emptyDict) (t':=s.toks) (λb u q=>Heap.get?_push_of_some _ q) (Nat.le_refl _) ⟨_,e1⟩
 refine I1.laid (a:=s.heap.objs.size+1) (o:=.ins C s.heap.objs.size []) (t':=s.toks) (λb u q=>Heap.get?_push_of_some _ q) (Nat.le_of_eq (Heap.size_push _ _)) ?_
 have ne:s.heap.objs.size≠s.heap.objs.size+1:=Nat.ne_of_lt (Nat.lt_succ_self _)
 refine ⟨by rw [upd_ne ne,upd_same],Nat.zero_le _,ne,e2,λ_=>none,(Heap.Ns1.of_empty e3).at λo q=>Heap.get?_push_of_some _ q,λ_=>True.intro,λy hy=>absurd rfl hy⟩

theorem attr_of {prog:Program} {w:World} {env:Env} {e:Expr} {f:Str} {pos:Pos} {s:Shared} {Q:Value->Shared->Prop} (hb:attributeBase e f env (eval e env)=eval e env)
   (h:wpAny (model prog w) A (eval e env) (λo s₁=>wpAny (model prog w) A (getAttr o f true) Q E s₁) E s):wpAny (model prog w) A (eval (.Attribute e f pos) env) Q E s :=
 Attribute_any_ h (by rw [arm_eval_Attribute,hb])
end

def tFld (K:PySem.W.Frag) (ta:TE) (f:Str):TE:=λσ H Q=>ta σ H λx H1=>∃ a C dx fs v,x=.ref a/\H1 a=some (.ins C dx fs)/\Cls K C/\NoAttr K C f/\fs.lookup f=some v/\Q v H1
def tCon (K:PySem.W.Frag) (ta:TE) (f:Str):TE:=λσ H Q=>ta σ H λx H1=>∃ a C dx fs v u,x=.ref a/\H1 a=some (.ins C dx fs)/\Cls K C/\Con K C f v u/\fs.lookup f=none/\Q v H1
def sFld (K:PySem.W.Frag) (ta tv:TE) (f:Str):TS:=λD σ H=>tv σ H λy H1=>ta σ H1 λx H2=>∃ a C dx fs,x=.ref a/\H2 a=some (.ins C dx fs)/\Cls K C/\NoAttr K C f/\fs.length < 1000 /\
 D.nx σ (upd H2 a (.ins C dx (putF f y fs)))
def InOp (X:Cx) (op:Operator) (rd:V->V->Hp->VK->Prop):Prop :=
 ∀ (pins:List (Addr × Obj)) (s:Shared) (σ:St) (H:Hp) (x y:V) (u v:Value) (Q:VK),Inv X pins σ H s->RelV x u->RelV y v->rd x y H Q->wpAny (model X.prog X.w) X.A (inplaceOp op u v) (EP X pins σ Q) X.xe s
def sFldAug (K:PySem.W.Frag) (ta tv:TE) (rd:V->V->Hp->VK->Prop) (f:Str):TS:=λD σ H=>ta σ H λx H1=>∃ a C dx fs v,x=.ref a/\H1 a=some (.ins C dx fs)/\Cls K C/\NoAttr K C f/\fs.lookup f=some v /\
 tv σ H1 λy H2=>rd v y H2 λz H3=>∃ dx' fs',H3 a=some (.ins C dx' fs')/\fs'.length < 1000/\D.nx σ (upd H3 a (.ins C dx' (putF f z fs')))

section
variable {X:Cx} {o e value:Expr} {f:Str} {pos pos' tpos:Pos} {ta tv:TE}
theorem pe_fld (he:PE X e ta) (hb:attributeBase e f X.env (eval e X.env)=eval e X.env):PE X (.Attribute e f pos) (tFld X.K ta f):=by
 intro pins s σ H Q I h
 refine attr_of hb (thn (he pins s σ H _ I h) λu s1 ⟨x,H1,I1,rx,a,C,dx,fs,v,ex,ea,c,n,l,q⟩=>?_)
 subst ex
 obtain rfl:u=Value.ref a:=rx
 exact getattr_ok I1 ea c n l λu' s2 I2 ru=>⟨v,H1,I2,ru,q⟩
theorem ps_fld (ha:PE X o ta) (hv:PE X value tv) (hs:swapsWith value (some (.Attribute o f pos')) pos.line X.env=pure false):PS X (.Assign [.Attribute o f pos'] value pos) (sFld X.K ta tv f):=by
 intro pins s σ H D I h
 refine plainObj_wpAny_Assign_Attribute (thn (hv pins s σ H _ I h) λu s1 ⟨y,H1,I1,ry,q⟩=>thn (ha pins s1 σ H1 _ I1 q) λov s2 ⟨x,H2,I2,rx,a,C,dx,fs,ex,ea,c,n,l,q2⟩=>?_) hs
 subst ex
 obtain rfl:ov=Value.ref a:=rx
 exact setattr_ok I2 ea c n l ry λs3 I3=>⟨σ,_,I3,q2⟩
def rAdd:V->V->Hp->VK->Prop:=λx y H Q=>∃ i j,x=.int i/\y=.int j/\Q (.int (i+j)) H
def rSub:V->V->Hp->VK->Prop:=λx y H Q=>∃ i j,x=.int i/\y=.int j/\Q (.int (i - j)) H
end

section
variable {X:Cx} {pins:List (Addr × Obj)} {σ:St} {H:Hp} {s:Shared} {A:Around} {E:Value->Shared->Prop} {Q:Value->Shared->Prop} {c:Value} {b:Bool}
inductive TyOf (K:PySem.W.Frag) (H:Hp):V->Value->Prop where
 | non:TyOf K H .non (.type "NoneType")
 | bl (x:Bool):TyOf K H (.bl x) (.type "bool")
 | int (i:Int):TyOf K H (.int i) (.type "int")
 | str (x:Str):TyOf K H (.str x) (.type "str")
 | flt (x:UInt64):TyOf K H (.flt x) (.type "float")
 | lst {a:Addr} {xs:List V} (e:H a=some (.lst xs)):TyOf K H (.ref a) (.type "list")
 | frz {a:Addr} {o:Obj} {xs:List V} (e:H a=some (.frz o (.lst xs))):TyOf K H (.ref a) (.type "list")
 | tup {a:Addr} {xs:List V} (e:H a=some (.tup xs)):TyOf K H (.ref a) (.type "tuple")
 | dK {a:Addr} {kvs:List (Key × V)} (e:H a=some (.dK kvs)):TyOf K H (.ref a) (.type "dict")
 | dT {a:Addr} {kvs:List (List Key × V)} (e:H a=some (.dT kvs)):TyOf K H (.ref a) (.type "dict")
 | ins {a C dx:Addr} {fs:List (Str × V)} (e:H a=some (.ins C dx fs)) (cl:Cls K C) (ha:PySem.W.findIn K (.ref C) "__class__"=some (some (.builtin "object.__class__")))
     (hn:PySem.W.specialIn K (.builtin "object.__class__") "__get__"=some (some (.builtin "getset_descriptor.__get__"))) (htk:PySem.W.takesIn K (.builtin "object.__class__")=some true)
     (hm:PySem.W.mroIn K C (.type "object")=some true):TyOf K H (.ref a) (.ref C)
theorem isinst_ok {x:V} {u t:Value} (I:Inv X pins σ H s) (rx:RelV x u) (ty:TyOf X.K H x t) (e:PySem.W.kitOne X.K t c=some b) (h:∀ tk,Q (.bool b) { s with toks:=tk }) :
   wpAny (model X.prog X.w) A (call (.builtin "isinstance") [u,c]) Q E s:=by
 cases ty with
 | non=>cases (show u=Value.none from rx);exact PySem.W.kia_one PySem.W.kitx_none I.kIn True.intro e (λz=>nomatch z) h
 | bl y=>cases (show u=Value.bool y from rx);exact PySem.W.kia_one PySem.W.kitx_bool I.kIn True.intro e (λz=>nomatch z) h
 | int i=>obtain ⟨t,q⟩:=(show ∃ t,u=Value.int i t from rx);cases q;exact PySem.W.kia_one PySem.W.kitx_int I.kIn True.intro e (λz=>nomatch z) h
 | str y=>obtain ⟨t,q⟩:=(show ∃ t,u=Value.str y t from rx);cases q;exact PySem.W.kia_one PySem.W.kitx_str I.kIn True.intro e (λz=>nomatch z) h
 | flt y=>obtain ⟨t,q⟩:=(show ∃ t,u=Value.float y t from rx);cases q;exact PySem.W.kia_one PySem.W.kitx_float I.kIn True.intro e (λz=>nomatch z) h
 | @lst a xs ea =>
   cases (show u=Value.ref a from rx)
   obtain ⟨_,_,n,_,h1⟩:=(show ObjOk X.prog X.w H s.heap a (.lst xs) from I.hok a _ ea)
   exact PySem.W.kia_one PySem.W.kitx_list I.kIn ⟨_,h1,rfl⟩ e (λz=>nomatch z) h
 | @frz a ob xs ea =>
   cases (show u=Value.ref a from rx)
   obtain ⟨_,_,_,n,_,h1⟩:=(show ObjOk X.prog X.w H s.heap a (.frz ob (.lst xs)) from I.hok a _ ea)
   exact PySem.W.kia_one PySem.W.kitx_list I.kIn ⟨_,h1,rfl⟩ e (λz=>nomatch z) h
 | @tup a xs ea =>
   cases (show u=Value.ref a from rx)
   obtain ⟨_,_,_,p⟩:=(show ObjOk X.prog X.w H s.heap a (.tup xs) from I.hok a _ ea)
   obtain ⟨o,h1,h2,_⟩:=p
   exact PySem.W.kia_one PySem.W.kitx_tuple I.kIn ⟨o,h1,h2⟩ e (λz=>nomatch z) h
 | @dK a kvs ea =>
   cases (show u=Value.ref a from rx)
   obtain ⟨_,_,vs,_,p⟩:=(show ObjOk X.prog X.w H s.heap a (.dK kvs) from I.hok a _ ea)
   obtain ⟨o,es,ep,h1,h2,_⟩:=p
   exact PySem.W.kia_one PySem.W.kitx_dict I.kIn ⟨o,h1,h2.1⟩ e (λz=>nomatch z) h
 | @dT a kvs ea =>
   cases (show u=Value.ref a from rx)
   obtain ⟨_,_,xs,_,o,es,ep,h1,h2,_⟩:=(show ObjOk X.prog X.w H s.heap a (.dT kvs) from I.hok a _ ea)
   exact PySem.W.kia_one PySem.W.kitx_dict I.kIn ⟨o,h1,h2.1⟩ e (λz=>nomatch z) h
 | @ins a C dx fs ea cl ha hn htk hm =>
   cases (show u=Value.ref a from rx)
   obtain ⟨mA,O,_⟩:=ins_get I.hok ea
   obtain ⟨od,J,_⟩:=O.look
   exact PySem.W.kia_one (PySem.W.kitx_own (cl.get _) cl.hd ha hn htk hm) I.kIn J e (λz=>nomatch z) h
end
end L2

namespace L2
open PySem PySem.Spec PyProof.Rows

structure Room (k:Nat) (A:Around):Prop where
 hd:A.handled=none
 dp:A.depth+3 * k+5 < recursionLimit
 un:A.units+16 * k+200 < cLine
theorem Room.mono {j k:Nat} {A:Around} (r:Room k A) (h:j <= k):Room j A:=⟨r.hd,by have:=r.dp;omega,by have:=r.un;omega⟩
theorem Room.deeper {k:Nat} {A:Around} (r:Room (k+1) A) (env:Env):Room k (A.deeper env) :=
 ⟨r.hd,by have:=r.dp;show A.depth+1+3 * k+5 < _;omega,by have:=r.un;show A.units+3+16 * k+200 < _;omega⟩
theorem Room.in1 {k:Nat} {A:Around} (r:Room (k+1) A):Room k A.in1 :=
 ⟨r.hd,by have:=r.dp;show A.depth+3 * k+5 < _;omega,by have:=r.un;show A.units+1+16 * k+200 < _;omega⟩
theorem make_depth {A:Around} {C:Addr} {us:List Value} {kw:List (Str × Value)}:(A.under (.builtin "type.__call__" ⟨.ref C :: us,kw⟩)).depth=A.depth+1:=by
 first | rfl | simp [Around.under,Code.weight,Code.isCreation,Code.isGuard,Code.isCaller,Code.frames,Code.isFrame,guardIds]
theorem make_units {A:Around} {C:Addr} {us:List Value} {kw:List (Str × Value)}:(A.under (.builtin "type.__call__" ⟨.ref C :: us,kw⟩)).units=A.units+1:=by
 first | rfl | simp [Around.under,Code.cUnits,Code.frames,Code.isFrame]
theorem Room.make {k:Nat} {A:Around} (r:Room (k+1) A) (C:Addr) (us:List Value) (kw:List (Str × Value)):Room k (A.under (.builtin "type.__call__" ⟨.ref C :: us,kw⟩)) :=
 ⟨r.hd,by have:=r.dp;rw [make_depth];omega,by have:=r.un;rw [make_units];omega⟩
theorem Room.depth {k:Nat} {A:Around} (r:Room k A):A.depth < recursionLimit:=by have:=r.dp;omega
theorem Room.units {k:Nat} {A:Around} (r:Room k A):A.units+64 < cLine:=by have:=r.un;omega
def tNil:TA:=λ_ H Q=>Q [] H
def tCons (ta:TE) (tr:TA):TA:=λσ H Q=>ta σ H λx H1=>tr σ H1 λxs H2=>Q (x :: xs) H2
section
variable {X:Cx} {e:Expr} {es:List Expr} {te:TE} {t:TA} {pos:Pos}
theorem pa_nil:PA X [] tNil:=λ_ _ _ _ H Q I h=>Calls.spliced_nil ⟨[],H,I,.nil,h⟩
theorem pa_cons (ha:PE X e te) (hr:PA X es t) (hs:starEach (e :: es) X.env=(false,eval e X.env) :: starEach es X.env:=by rfl):PA X (e :: es) (tCons te t):=by
 intro pos pins s σ H Q I h
 rw [hs]
 show wpAny _ _ (spliced ((false,eval e X.env) :: backTo pos (starEach es X.env))) _ _ s
 refine Calls.spliced_cons (thn (ha pins s σ H _ I h) λu s1 ⟨x,H1,I1,r1,q1⟩=>?_)
 exact thn (hr pos pins s1 σ H1 _ I1 q1) λus s2 ⟨xs,H2,I2,r2,q2⟩=>⟨x :: xs,H2,I2,.cons r1 r2,q2⟩

def tTup (t:TA):TE:=λσ H Q=>t σ H λxs H1=>xs.length <= sizeLine/\∀ p,H1 p=none->Q (.ref p) (upd H1 p (.tup xs))
def tLst (t:TA):TE:=λσ H Q=>t σ H λxs H1=>xs.length <= sizeLine/\∀ p,H1 p=none->Q (.ref p) (upd H1 p (.lst xs))
theorem pe_tup {x1} (h:PA X es t):PE X (.Tuple es x1 pos) (tTup t):=by
 intro pins s σ H Q I hq
 refine wpAny_Tuple_spliced (thn (h pos pins s σ H _ I hq) λus s1 ⟨xs,H1,I1,r,z,q⟩=>⟨by rw [← r.length];exact z,?_⟩)
 have hf:H1 s1.heap.objs.size=none:=I1.hok.fresh (Nat.le_refl _)
 refine ⟨.ref s1.heap.objs.size,upd H1 s1.heap.objs.size (.tup xs),I1.laid (t':=s1.toks) (λb u e=>Heap.get?_push_of_some _ e) (Nat.le_refl _) ?_,rfl,q _ hf⟩
 exact ⟨z,us,r,⟨_,Heap.get?_push_size _ rfl,rfl,_,rfl⟩⟩
theorem pe_lst (h:PA X es t):PE X (.List es pos) (tLst t):=by
 intro pins s σ H Q I hq
 refine wpAny_List_spliced (thn (h pos pins s σ H _ I hq) λus s1 ⟨xs,H1,I1,r,z,q⟩=>⟨by rw [← r.length];exact z,?_⟩)
 have hf:H1 s1.heap.objs.size=none:=I1.hok.fresh (Nat.le_refl _)
 refine ⟨.ref s1.heap.objs.size,upd H1 s1.heap.objs.size (.lst xs),I1.laid (t':=s1.toks) (λb u e=>Heap.get?_push_of_some _ e) (Nat.le_refl _) ?_,rfl,q _ hf⟩
 exact ⟨z,us,0,r,Heap.get?_push_size _ rfl⟩
end

abbrev Sp:=List V->Hp->VK->XK->Prop
abbrev CXT:=List Env->Hp->Shared->XK->Value->Shared->Prop

structure Env0 (P:Program) (w:World) (K:PySem.W.Frag) (mg:Str->Option Value) (base:Heap) (A:Around) (outer:List Env) (s:Shared) (H:Hp):Prop where
 frames:A.frames=some outer
 mod:Mod K mg base
 bs:∀ b o,base.get? b=some o->s.heap.get? b=some o/\H b=none
 bsz:base.objs.size <= s.heap.objs.size
 funs:s.heap.FunFrames base outer
 frf:∀ b∈frs outer,H b=none
 hok:HOk P w H s.heap
 bare:AllBare s.gens
def CE (outer:List Env) (P:Program) (w:World) (H:Hp) (s:Shared) (Q:VK) (u:Value) (s':Shared):Prop :=
 ∃ v H',s'.os=s.os/\AllBare s'.gens/\Un (frs outer) [] H H' s.heap s'.heap/\HOk P w H' s'.heap/\RelV v u/\Q v H'
def CR (CX:CXT) (outer:List Env) (P:Program) (w:World) (H:Hp) (s:Shared) (Q:VK) (E:XK) (r:Result) (s':Shared):Prop :=
 match r with
 | .ok (.ret u)=>CE outer P w H s Q u s'
 | .ok _=>False
 | .error e=>CX outer H s E e s'
structure FnOk (P:Program) (w:World) (K:PySem.W.Frag) (mg:Str->Option Value) (base:Heap) (CX:CXT) (k:Nat) (f:Addr) (fd:FuncData) (ps:List Str) (sp:Sp):Prop where
 len:∀ vs H Q E,sp vs H Q E->vs.length=ps.length
 run:∀ (A:Around) (outer:List Env) (s:Shared) (H:Hp) (args:Args) (us:List Value) (vs:List V) (Q:VK) (E:XK),Room k A->Env0 P w K mg base A outer s H->BindsTo s fd args (ps.zip us)->Vals vs us->sp vs H Q E ->
   codeAny (model P w) A (.call (.ref f) args) (CR CX outer P w H s Q E) s
theorem FnOk.mono {P:Program} {w:World} {K:PySem.W.Frag} {mg:Str->Option Value} {base:Heap} {CX:CXT} {j k:Nat} {f:Addr} {fd:FuncData} {ps:List Str} {sp:Sp} (F:FnOk P w K mg base CX j f fd ps sp) (h:j <= k) :
   FnOk P w K mg base CX k f fd ps sp:=⟨F.len,λA outer s H args us vs Q E hr=>F.run A outer s H args us vs Q E (hr.mono h)⟩
theorem FnOk.imp {P:Program} {w:World} {K:PySem.W.Frag} {mg:Str->Option Value} {base:Heap} {CX:CXT} {k:Nat} {f:Addr} {fd:FuncData} {ps:List Str} {sp sp':Sp} (F:FnOk P w K mg base CX k f fd ps sp)
   (h:∀ vs H Q E,sp' vs H Q E->sp vs H Q E):FnOk P w K mg base CX k f fd ps sp' :=
 ⟨λvs H Q E q=>F.len vs H Q E (h _ _ _ _ q),λA outer s H args us vs Q E hr he hb hv hs=>F.run A outer s H args us vs Q E hr he hb hv (h _ _ _ _ hs)⟩

theorem Env0.make {P:Program} {w:World} {K:PySem.W.Frag} {mg:Str->Option Value} {base:Heap} {A:Around} {outer:List Env} {s:Shared} {H:Hp} (e:Env0 P w K mg base A outer s H) (C:Addr) (us:List Value) (kw:List (Str × Value)) :
   Env0 P w K mg base (A.under (.builtin "type.__call__" ⟨.ref C :: us,kw⟩)) outer s H:=⟨by first | exact e.frames | (simpa [Around.under,Code.envs,Code.isFrame,pushEnvs] using e.frames),e.mod,e.bs,e.bsz,e.funs,e.frf,e.hok,e.bare⟩
theorem Env0.in1 {P:Program} {w:World} {K:PySem.W.Frag} {mg:Str->Option Value} {base:Heap} {A:Around} {outer:List Env} {s:Shared} {H:Hp} (e:Env0 P w K mg base A outer s H) :
   Env0 P w K mg base A.in1 outer s H:=⟨e.frames,e.mod,e.bs,e.bsz,e.funs,e.frf,e.hok,e.bare⟩

section
variable {X:Cx} {pins:List (Addr × Obj)} {σ:St} {H:Hp} {s s':Shared}
theorem Inv.env0 (I:Inv X pins σ H s):Env0 X.prog X.w X.K X.mg X.base X.A X.stack s H :=
 ⟨I.ok.frames,I.ok.mod,I.bs,Nat.le_trans I.ok.bsz I.sz,I.stack,I.stkFree,I.hok,I.bare⟩
theorem Inv.after {Q:VK} {u:Value} (I:Inv X pins σ H s) (h:CE X.stack X.prog X.w H s Q u s'):EP X pins σ Q u s':=by
 obtain ⟨v,H',os,bare,un,hok,r,q⟩:=h
 obtain ⟨hh,g,d,t,os'⟩:=s'
 obtain rfl:os'=s.os:=os
 exact ⟨v,H',I.call (h':=hh) (g':=g) (d':=d) (t':=t) (ch:=[]) un hok bare (λb z=>absurd z (by simp)),r,q⟩
end

def tCall (sp:Sp) (dvs:List V) (E:XK) (t:TA):TE:=λσ H Q=>t σ H λvs H1=>sp (vs++dvs) H1 Q E
def tMeth (C:Addr) (m:Str) (sp:Sp) (dvs:List V) (E:XK) (ta:TE) (t:TA):TE:=λσ H Q=>ta σ H λx H1=>∃ a dx fs,x=.ref a/\H1 a=some (.ins C dx fs)/\fs.lookup m=none /\
 t σ H1 λvs H2=>sp (x :: (vs++dvs)) H2 Q E
def tMake (C:Addr) (sp:Sp) (dvs:List V) (E:XK) (t:TA):TE:=λσ H Q=>t σ H λvs H1=>∀ x dx,H1 x=none->H1 dx=none->dx≠x ->
 sp (.ref x :: (vs++dvs)) (upd (upd H1 dx (.own x)) x (.ins C dx [])) (λv H2=>v=.non/\Q (.ref x) H2) E

def Binds (K:PySem.W.Frag) (fd:FuncData) (ps:List Str) (ds:List Value):Prop :=
 ∀ (s:Shared) (us:List Value),K.In s.heap->(us++ds).length=ps.length->BindsTo s fd ⟨us,[]⟩ (ps.zip (us++ds))
theorem Binds.all {K:PySem.W.Frag} {fd:FuncData} {ps:List Str} (h:∀ us:List Value,us.length=ps.length->bindArgs fd ⟨us,[]⟩=pure (ps.zip us)):Binds K fd ps []:=λs us _ hl=>by
 rw [List.append_nil] at hl ⊢
 exact .of_eq (h us hl)

def Passes (CX:CXT) (X:Cx) (E:XK):Prop:=∀ (pins:List (Addr × Obj)) (σ:St) (H:Hp) (s:Shared) (e:Value) (s':Shared),Inv X pins σ H s->CX X.stack H s E e s'->X.xe e s'

section
variable {X:Cx} {CX:CXT} {k:Nat} {f C:Addr} {fd:FuncData} {ps:List Str} {sp:Sp} {dvs:List V} {ds:List Value} {E:XK} {x m:Str} {p pos apos:Pos} {e o:Expr} {es:List Expr} {ta:TE} {t:TA}

theorem run_fn {pins:List (Addr × Obj)} {σ:St} {H:Hp} {s:Shared} {Q:VK} {us:List Value} {vs:List V} (F:FnOk X.prog X.w X.K X.mg X.base CX k f fd ps sp) (hr:Room k X.A) (hb:Binds X.K fd ps ds) (hd:Vals dvs ds) (hx:Passes CX X E)
   (I:Inv X pins σ H s) (r:Vals vs us) (h:sp (vs++dvs) H Q E):wpAny (model X.prog X.w) X.A (call (.ref f) us) (EP X pins σ Q) X.xe s:=by
 have r2:Vals (vs++dvs) (us++ds):=r.append hd
 have hl:(us++ds).length=ps.length:=by rw [← r2.length];exact F.len _ _ _ _ h
 refine wpAny_call (codeAny_mono (F.run X.A X.stack s H ⟨us,[]⟩ (us++ds) (vs++dvs) Q E hr I.env0 (hb s us I.kIn hl) r2 h) λr s' hq=>?_)
 cases r with
 | error e=>exact hx pins σ H s e s' I hq
 | ok fl =>
   cases fl with
   | ret u=>exact I.after hq
   | next=>exact False.elim hq
   | brk=>exact False.elim hq
   | cont=>exact False.elim hq

theorem pe_call (F:FnOk X.prog X.w X.K X.mg X.base CX k f fd ps sp) (hr:Room k X.A) (hg:Gl X x) (hm:X.mg x=some (.ref f)) (hk:PySem.W.keepIn X.K (.ref f)=true) (hb:Binds X.K fd ps ds) (hd:Vals dvs ds) (hx:Passes CX X E)
   (ha:PA X (e :: es) t) (hdb:(x == ("__debug__":Str))=false:=by decide) (he:starEach (e :: es) X.env=(false,eval e X.env) :: starEach es X.env:=by rfl) (hpl:(backTo pos (starEach es X.env)).any (·.1)=false:=by rfl) :
   PE X (.Call (.Name x p) (e :: es) [] pos) (tCall sp dvs E t):=by
 intro pins s σ H Q I h
 refine wpAny_Call_Name_kw (ld_glob I hg hm ?_ hdb)
 refine PySem.W.callWith_K (h₀:=X.base) I.ok.mod.kin hk (thn (ha pos pins s σ H _ I h) λus s1 ⟨vs,H1,I1,r,q⟩=>⟨I1.kIn,?_⟩) he hpl
 exact run_fn F hr hb hd hx I1 r q
theorem pe_meth {pl:Sem Bool} (he:PE X o ta) (c:Cls X.K C) (hm:Meth X.K C m f) (F:FnOk X.prog X.w X.K X.mg X.base CX k f fd ps sp) (hr:Room k X.A) (hb:Binds X.K fd ps ds) (hd:Vals dvs ds) (hx:Passes CX X E) (ha:PA X (e :: es) t)
   (hst:starEach (e :: es) X.env=(false,eval e X.env) :: starEach es X.env:=by rfl) (hpl:(backTo pos (starEach es X.env)).any (·.1)=false:=by rfl)
   (ht:eval (.Call (.Attribute o m apos) (e :: es) [] pos) X.env=(do
     let ov ← eval o X.env
     standAt apos.atName
     let (f,first) ← holding [ov] (getMethod ov m pl)
     callWith pos f first (backTo pos (starEach (e :: es) X.env)) (backToKw pos (keywordEach [] X.env))):=by rfl) :
   PE X (.Call (.Attribute o m apos) (e :: es) [] pos) (tMeth C m sp dvs E ta t):=by
 intro pins s σ H Q I h
 refine PySem.W.methodCall_KW (pl:=pl) (thn (he pins s σ H _ I h) λu s1 ⟨x,H1,I1,rx,a,dx,fs,ex,ea,l,q⟩=>?_) ht
 subst ex
 obtain rfl:u=Value.ref a:=rx
 refine getmeth_ok I1 ea c hm l ?_
 refine PySem.W.callWith_K (first:=[.ref a]) (h₀:=X.base) I.ok.mod.kin hm.kp (thn (ha pos pins s1 σ H1 _ I1 q) λus s2 ⟨vs,H2,I2,r,q2⟩=>⟨I2.kIn,?_⟩) hst hpl
 exact run_fn (us:=.ref a :: us) (vs:=.ref a :: vs) F hr hb hd hx I2 (.cons rfl r) q2
theorem pe_meth0 {pl:Sem Bool} (he:PE X o ta) (c:Cls X.K C) (hm:Meth X.K C m f) (F:FnOk X.prog X.w X.K X.mg X.base CX k f fd ps sp) (hr:Room k X.A) (hb:Binds X.K fd ps ds) (hd:Vals dvs ds) (hx:Passes CX X E)
   (ht:eval (.Call (.Attribute o m apos) [] [] pos) X.env=(do
     let ov ← eval o X.env
     standAt apos.atName
     let (f,first) ← holding [ov] (getMethod ov m pl)
     callWith pos f first (backTo pos (starEach [] X.env)) (backToKw pos (keywordEach [] X.env))):=by rfl) :
   PE X (.Call (.Attribute o m apos) [] [] pos) (tMeth C m sp dvs E ta tNil):=by
 intro pins s σ H Q I h
 refine PySem.W.methodCall_KW (pl:=pl) (thn (he pins s σ H _ I h) λu s1 ⟨x,H1,I1,rx,a,dx,fs,ex,ea,l,q⟩=>?_) ht
 subst ex
 obtain rfl:u=Value.ref a:=rx
 refine getmeth_ok I1 ea c hm l ?_
 exact PySem.W.callWith_K0 (first:=[.ref a]) I1.kIn hm.kp (run_fn (us:=[.ref a]) (vs:=[.ref a]) F hr hb hd hx I1 (.cons rfl .nil) q)

structure Mk (K:PySem.W.Frag) (C f:Addr):Prop where
 makes:PySem.W.makesIn K C=true
 init:PySem.W.findIn K (.ref C) "__init__"=some (some (.ref f))
 fn:PySem.W.isFn K (.ref f)=true
 kp:PySem.W.keepIn K (.ref C)=true

theorem run_make {pins:List (Addr × Obj)} {σ:St} {H:Hp} {s:Shared} {Q:VK} {us:List Value} {vs:List V} (M:Mk X.K C f) (F:FnOk X.prog X.w X.K X.mg X.base CX k f fd ps sp) (hr:Room (k+1) X.A) (hb:Binds X.K fd ps ds) (hd:Vals dvs ds)
   (hx:Passes CX X E) (I:Inv X pins σ H s) (r:Vals vs us)
   (h:∀ x dx,H x=none->H dx=none->dx≠x->sp (.ref x :: (vs++dvs)) (upd (upd H dx (.own x)) x (.ins C dx [])) (λv H2=>v=.non/\Q (.ref x) H2) E) :
   wpAny (model X.prog X.w) X.A (call (.ref C) us) (EP X pins σ Q) X.xe s:=by
 have hq:=h (s.heap.objs.size+1) s.heap.objs.size (I.hok.fresh (Nat.le_succ _)) (I.hok.fresh (Nat.le_refl _)) (Nat.ne_of_lt (Nat.lt_succ_self _))
 have I2:=Inv.made (C:=C) I
 have r2:Vals (V.ref (s.heap.objs.size+1) :: (vs++dvs)) (Value.ref (s.heap.objs.size+1) :: (us++ds)):=.cons rfl (r.append hd)
 have hl:(Value.ref (s.heap.objs.size+1) :: us++ds).length=ps.length:=by
   have e:=r2.length
   rw [F.len _ _ _ _ hq] at e
   exact e.symm
 refine wpAny_call (make_map (f:=f) I.kIn M.makes M.init (beq_iff_eq.mp M.fn) (codeAny_mono (F.run _ X.stack _ _ ⟨Value.ref (s.heap.objs.size+1) :: us,[]⟩ (Value.ref (s.heap.objs.size+1) :: (us++ds)) _ _ E (hr.make C us [])
   (I2.env0.make C us []) (hb _ (Value.ref (s.heap.objs.size+1) :: us) I2.kIn hl) r2 hq) λr s' hq'=>?_))
 cases r with
 | error e=>exact hx pins σ _ _ e s' I2 hq'
 | ok fl =>
   cases fl with
   | ret u =>
     obtain ⟨v,H',I3,rv,ev,q3⟩:=I2.after hq'
     subst ev
     exact ⟨rv,⟨V.ref (s.heap.objs.size+1),H',I3,rfl,q3⟩⟩
   | next=>exact False.elim hq'
   | brk=>exact False.elim hq'
   | cont=>exact False.elim hq'
theorem pe_make (M:Mk X.K C f) (F:FnOk X.prog X.w X.K X.mg X.base CX k f fd ps sp) (hr:Room (k+1) X.A) (hg:Gl X x) (hm:X.mg x=some (.ref C)) (hb:Binds X.K fd ps ds) (hd:Vals dvs ds) (hx:Passes CX X E)
   (ha:PA X (e :: es) t) (hdb:(x == ("__debug__":Str))=false:=by decide) (he:starEach (e :: es) X.env=(false,eval e X.env) :: starEach es X.env:=by rfl) (hpl:(backTo pos (starEach es X.env)).any (·.1)=false:=by rfl) :
   PE X (.Call (.Name x p) (e :: es) [] pos) (tMake C sp dvs E t):=by
 intro pins s σ H Q I h
 refine wpAny_Call_Name_kw (ld_glob I hg hm ?_ hdb)
 refine PySem.W.callWith_K (h₀:=X.base) I.ok.mod.kin M.kp (thn (ha pos pins s σ H _ I h) λus s1 ⟨vs,H1,I1,r,q⟩=>⟨I1.kIn,?_⟩) he hpl
 exact run_make M F hr hb hd hx I1 r q
theorem pe_make0 (M:Mk X.K C f) (F:FnOk X.prog X.w X.K X.mg X.base CX k f fd ps sp) (hr:Room (k+1) X.A) (hg:Gl X x) (hm:X.mg x=some (.ref C)) (hb:Binds X.K fd ps ds) (hd:Vals dvs ds) (hx:Passes CX X E)
   (hdb:(x == ("__debug__":Str))=false:=by decide):PE X (.Call (.Name x p) [] [] pos) (tMake C sp dvs E tNil):=by
 intro pins s σ H Q I h
 refine wpAny_Call_Name_kw (ld_glob I hg hm ?_ hdb)
 exact PySem.W.callWith_K0 I.kIn M.kp (run_make (us:=[]) M F hr hb hd hx I .nil h)
end

def PK (X:Cx) (kws:List Keyword) (t:TA):Prop :=
 ∀ (pos:Pos) (pins:List (Addr × Obj)) (s:Shared) (σ:St) (H:Hp) (Q:List V->Hp->Prop),Inv X pins σ H s->t σ H Q->wpAny (model X.prog X.w) X.A (evalAll ((backToKw pos (keywordEach kws X.env)).map (·.2))) (AP X pins σ Q) X.xe s
section
variable {X:Cx} {CX:CXT} {k:Nat} {f C:Addr} {fd:FuncData} {ps ks:List Str} {sp:Sp} {E:XK} {x m:Str} {p pos apos kpos:Pos} {e o:Expr} {es:List Expr} {kws:List Keyword} {te ta:TE} {t tk:TA} {nm:Option Str}
structure KBinds (K:PySem.W.Frag) (fd:FuncData) (ps ks:List Str) (g:List Value->List Value->List Value) (gV:List V->List V->List V):Prop where
 to:∀ (s:Shared) (us ws:List Value),K.In s.heap->(g us ws).length=ps.length->BindsTo s fd ⟨us,ks.zip ws⟩ (ps.zip (g us ws))
 rel:∀ {vs:List V} {us:List Value} {zs:List V} {ws:List Value},Vals vs us->Vals zs ws->Vals (gV vs zs) (g us ws)
def tCallK (sp:Sp) (gV:List V->List V->List V) (E:XK) (t tk:TA):TE:=λσ H Q=>t σ H λvs H1=>tk σ H1 λzs H2=>sp (gV vs zs) H2 Q E
variable {g:List Value->List Value->List Value} {gV:List V->List V->List V}
end

structure FnScope (N P:List Str) (sc:Scope):Prop where
 kind:sc.kind=.function
 co:sc.isCoroutine=false
 gen:sc.isGenerator=false
 nd:N.Nodup
 pre:N.take P.length=P
 par:∀ x∈P,sc.names.lookup x=some .local\/sc.names.lookup x=some .cell
 nofree:∀ y∈sc.names,y.2≠.free

theorem bindL_out {kindOf:Str->Option NameKind} {x:Str}:∀ {binds:List (Str × Value)} {m:Str->Option Value},(∀ v,(x,v) ∉ binds)->bindL kindOf binds m x=m x
 | [],_,_=>rfl
 | (n,v) :: r,m,h=>by
   unfold bindL
   rw [bindL_out λw hw=>h w (List.mem_cons_of_mem _ hw)]
   split
   · have:x≠n:=by rintro rfl;exact h v List.mem_cons_self
     simp [this]
   · rfl
theorem bindC_out {kindOf:Str->Option NameKind} {x:Str}:∀ {binds:List (Str × Value)} {m:Str->Option Value},(∀ v,(x,v) ∉ binds)->bindC kindOf binds m x=m x
 | [],_,_=>rfl
 | (n,v) :: r,m,h=>by
   unfold bindC
   rw [bindC_out λw hw=>h w (List.mem_cons_of_mem _ hw)]
   split
   · rfl
   · have:x≠n:=by rintro rfl;exact h v List.mem_cons_self
     simp [this]
theorem bindL_get {kindOf:Str->Option NameKind} {x:Str} {v:Value}:∀ {P:List Str} {vs:List Value} {i:Nat} {m:Str->Option Value},P.Nodup->P[i]?=some x->vs[i]?=some v->kindOf x=some .local ->
   bindL kindOf (P.zip vs) m x=some v
 | [],_,_,_,_,h,_,_=>by simp at h
 | _ :: _,[],_,_,_,_,h,_=>by simp at h
 | p :: P,w :: vs,0,m,nd,h1,h2,hk=>by
   simp at h1 h2;subst h1;subst h2
   show bindL kindOf ((p,w) :: P.zip vs) m p=_
   unfold bindL
   rw [bindL_out λv hv=>(List.nodup_cons.mp nd).1 (List.of_mem_zip hv).1,if_pos hk]
   simp
 | p :: P,w :: vs,i+1,m,nd,h1,h2,hk=>by
   show bindL kindOf ((p,w) :: P.zip vs) m x=_
   unfold bindL
   exact bindL_get (i:=i) (List.nodup_cons.mp nd).2 (by simpa using h1) (by simpa using h2) hk
theorem bindC_get {kindOf:Str->Option NameKind} {x:Str} {v:Value}:∀ {P:List Str} {vs:List Value} {i:Nat} {m:Str->Option Value},P.Nodup->P[i]?=some x->vs[i]?=some v->kindOf x≠some .local ->
   bindC kindOf (P.zip vs) m x=some v
 | [],_,_,_,_,h,_,_=>by simp at h
 | _ :: _,[],_,_,_,_,h,_=>by simp at h
 | p :: P,w :: vs,0,m,nd,h1,h2,hk=>by
   simp at h1 h2;subst h1;subst h2
   show bindC kindOf ((p,w) :: P.zip vs) m p=_
   unfold bindC
   rw [bindC_out λv hv=>(List.nodup_cons.mp nd).1 (List.of_mem_zip hv).1,if_neg hk]
   simp
 | p :: P,w :: vs,i+1,m,nd,h1,h2,hk=>by
   show bindC kindOf ((p,w) :: P.zip vs) m x=_
   unfold bindC
   exact bindC_get (i:=i) (List.nodup_cons.mp nd).2 (by simpa using h1) (by simpa using h2) hk

def start (N:List Str) (vs:List V):St:=vs.map some++List.replicate (N.length - vs.length) none

def cxOf (CX:CXT) (P:Program) (w:World) (K:PySem.W.Frag) (mg:Str->Option Value) (base:Heap) (N:List Str) (qual:Str) (scope:Scope) (f:Addr) (cd:Value) (A:Around) (outer:List Env) (s:Shared) (H:Hp) (E:XK):Cx where
 prog:=P
 w:=w
 K:=K
 mg:=mg
 base:=base
 A:=A.deeper (envOfC qual scope s.heap.objs.size f cd)
 N:=N
 s₀:=s
 H₀:=H
 env:=envOfC qual scope s.heap.objs.size f cd
 outer:=outer
 stack:=envOfC qual scope s.heap.objs.size f cd :: outer
 ex:=[]
 calm:=true
 fn:=λ_=>true
 pn:=[]
 xe:=λe s'=>wpAny (model P w) (A.deeper (envOfC qual scope s.heap.objs.size f cd)) (leaving (envOfC qual scope s.heap.objs.size f cd) e) (λ_ s''=>CX outer H s E e s'') (λe' s''=>CX outer H s E e' s'') s'

theorem cell_has {sc:Scope} {n:Nat} {x:Str} (h:sc.names.lookup x=some .cell):∃ c,(cellsFrom n sc.names []).lookup x=some c:=by
 have q:=PySem.W.cellsFrom_some sc.names n [] (.inl h)
 exact Option.isSome_iff_exists.mp q

theorem inv_start {CX:CXT} {P:Program} {w:World} {K:PySem.W.Frag} {mg:Str->Option Value} {base:Heap} {N ps:List Str} {qual:Str} {scope:Scope} {f:Addr} {cd:Value} {A:Around} {outer:List Env} {s s1:Shared} {H:Hp} {E:XK} {us:List Value} {vs:List V}
   (S:FnScope N ps scope) (hd:A.handled=none) (e0:Env0 P w K mg base A outer s H) (hl:vs.length=ps.length) (r:Vals vs us)
   (x:InCallC s s.heap.objs.size (bindL (envOfC qual scope s.heap.objs.size f cd).kindOf (ps.zip us) λ_=>none) (cellsFrom (s.heap.objs.size+1) scope.names []) (bindC (envOfC qual scope s.heap.objs.size f cd).kindOf (ps.zip us) λ_=>none) s1) :
   Inv (cxOf CX P w K mg base N qual scope f cd A outer s H E) [] (start N vs) H s1:=by
 have hpl:ps.length <= N.length:=by have:=congrArg List.length S.pre;rw [List.length_take] at this;omega
 obtain ⟨h1,tk,rfl,hk⟩:=x.done
 have noA:∀ b:Addr,b ∉ (cxOf CX P w K mg base N qual scope f cd A outer s H E).ex:=λb z=>absurd (show b∈([]:List Addr) from z) (by simp)
 refine ⟨⟨e0.mod,S.kind,rfl,rfl,Nat.le_refl _,λy z c h1 h2=>?_,λy hy=>?_,λy c _ h=>?_,λ_=>hd,Around.frames_deeper e0.frames,.inr ⟨rfl,rfl⟩,λb z=>absurd z (noA b),e0.bs,e0.bsz,λb _ _=>noA b,λb z=>absurd z (noA b),e0.funs,e0.frf⟩,
   rfl,e0.bare,Un.kept hk,⟨_,x.toInCall.ns,λi y v h1 h2 h3=>?_⟩,λy c h=>⟨_,x.cell y c h⟩,e0.hok.fresh (Nat.le_refl _),λy c h=>?_,λp hp=>absurd (show p∈([]:List (Addr × Obj)) from hp) (by simp),e0.hok.kept hk,?_⟩
 · exact name_of_addr x.apart (PySem.mem_of_lookup h1) (PySem.mem_of_lookup h2)
 · have hy:scope.names.lookup y=some .cell\/scope.names.lookup y=some .free:=hy
   rcases hy with hy | hy
   · exact cell_has hy
   · exact absurd rfl (S.nofree _ (PySem.mem_of_lookup hy))
 · exact Nat.le_of_lt (x.above y c (PySem.mem_of_lookup h))
 · have hi:i < vs.length:=by
     unfold start at h2
     by_cases hi:i < vs.length
     · exact hi
     · rw [List.getElem?_append_right (by simpa using hi)] at h2
       rw [List.getElem?_replicate] at h2
       split at h2<;>cases h2
   have ha:vs[i]?=some v:=by
     unfold start at h2
     rw [List.getElem?_append_left (by simpa using hi),List.getElem?_map] at h2
     cases e:vs[i]? with
     | none=>rw [e] at h2;cases h2
     | some a=>rw [e] at h2;cases h2;rfl
   obtain ⟨u,hu,rv⟩:=r.get ha
   have hp:ps[i]?=some y:=by
     rw [← S.pre,List.getElem?_take_of_lt (by omega)];exact h1
   have ndP:ps.Nodup:=by rw [← S.pre];exact S.nd.sublist (List.take_sublist _ _)
   refine ⟨u,rv,?_⟩
   rcases S.par y (List.mem_of_getElem? hp) with k | k
   · exact .inl ⟨k,bindL_get ndP hp hu k⟩
   · obtain ⟨c,e⟩:=cell_has (n:=s.heap.objs.size+1) k
     refine .inr ⟨.inl k,c,e,?_⟩
     have q:=x.cell y c e
     rw [bindC_get ndP hp hu (by show scope.names.lookup y≠_;rw [k];decide)] at q
     exact q
 · exact e0.hok.fresh (Nat.le_of_lt (x.above y c (PySem.mem_of_lookup h)))
 · unfold start
   show _=N.length
   rw [List.length_append,List.length_map,List.length_replicate]
   omega

theorem fn_of {CX:CXT} {P:Program} {w:World} {K:PySem.W.Frag} {mg:Str->Option Value} {base:Heap} {k:Nat} {f:Addr} {name qual:Str} {params:Arguments} {body:List Stmt} {scope:Scope} {dV kV doc pm cdv ct oc:Value} {an od:Option Addr}
   {osl:Array (Option Value)} {N ps:List Str} {sp:Sp} (lk:K.lookup f=some ⟨oc,od,.func (PySem.W.fnOf name qual params body scope dV kV doc pm an cdv ct),osl⟩) (hcd:PySem.W.codeIn K cdv qual=true) (S:FnScope N ps scope)
   (len:∀ vs H Q E,sp vs H Q E->vs.length=ps.length)
   (hbody:∀ (A:Around) (outer:List Env) (s:Shared) (H:Hp) (vs:List V) (Q:VK) (E:XK),Room k (A.deeper (envOfC qual scope s.heap.objs.size f cdv))->sp vs H Q E ->
     ∃ t,PSs (cxOf CX P w K mg base N qual scope f cdv A outer s H E) body t/\t { nx:=λ_ H'=>Q .non H',rt:=Q } (start N vs) H) :
   FnOk P w K mg base CX (k+1) f (PySem.W.fnOf name qual params body scope dV kV doc pm an cdv ct) ps sp:=by
 refine ⟨len,λA outer s H args us vs Q E hr e0 hb r hsp=>?_⟩
 have hl:=len _ _ _ _ hsp
 have KX:K.In s.heap:=e0.mod.kin.keeps λb o e=>(e0.bs b o e).1
 have lim:s.heap.NoLimit:=e0.mod.nolimit.keeps λb o e=>(e0.bs b o e).1
 have hkind:∀ y∈ps.zip us,scope.names.lookup y.1=some .local\/(scope.names.lookup y.1=some .cell/\((cellsFrom (s.heap.objs.size+1) scope.names []).lookup y.1).isSome=true):=λ⟨n,v⟩ hy=>by
   rcases S.par n (List.of_mem_zip hy).1 with q | q
   · exact .inl q
   · exact .inr ⟨q,PySem.W.cellsFrom_some _ _ _ (.inl q)⟩
 refine codeAny_call_function hr.depth (KX _ _ lk) rfl S.co S.gen rfl (PySem.W.codeRec_of KX hcd) (hb _ _ _ _ ?_)
 refine wpAny_newFunctionEnv_cells S.kind hkind λenv he s1 x=>?_
 subst he
 refine ⟨lim.keeps x.toInCall.keep,codeAny_func ?_⟩
 obtain ⟨t,ht,hq⟩:=hbody A outer s H vs Q E (hr.deeper _) hsp
 have I:Inv (cxOf CX P w K mg base N qual scope f cdv A outer s H E) [] (start N vs) H s1:=inv_start S hr.hd e0 hl r x
 refine wpAny_mono (ht [] s1 (start N vs) H _ I hq) (λfl s' hs=>?_) λe s' hs=>hs
 have fin:∀ {σ':St} {H':Hp} {v:V} {u:Value},Inv (cxOf CX P w K mg base N qual scope f cdv A outer s H E) [] σ' H' s'->RelV v u->Q v H'->CE outer P w H s Q u s' :=
   λ{σ' H' v u} J rv q=>⟨v,H',J.os,J.bare,J.base,J.hok,rv,q⟩
 cases fl with
 | ret u =>
   obtain ⟨v,σ',H',J,rv,q⟩:=hs
   exact fin J rv q
 | next =>
   obtain ⟨σ',H',J,q⟩:=hs
   exact fin (v:=V.non) (u:=Value.none) J rfl q
 | brk =>
   obtain ⟨_,_,_,q⟩:=hs
   exact False.elim q
 | cont =>
   obtain ⟨_,_,_,q⟩:=hs
   exact False.elim q
end L2

namespace L2
open PySem PySem.Spec PyProof.Rows
section
variable {X:Cx} {x:Str} {p pos:Pos} {e:Expr} {es:List Expr} {t:TA} {id T:String} {r:List V->Hp->VK->Prop}

def tCB (r:List V->Hp->VK->Prop) (t:TA):TE:=λσ H Q=>t σ H λvs H1=>r vs H1 Q
theorem pe_callB (hc:CallR X (.builtin id) r) (hg:Gl X x) (hm:X.mg x=none) (hv:bootBuiltins x=some (.builtin id)) (ha:PA X (e :: es) t) (hn:x≠"__name__":=by decide) (hdb:(x == ("__debug__":Str))=false:=by decide)
   (he:starEach (e :: es) X.env=(false,eval e X.env) :: starEach es X.env:=by rfl) (hpl:(backTo pos (starEach es X.env)).any (·.1)=false:=by rfl):PE X (.Call (.Name x p) (e :: es) [] pos) (tCB r t):=by
 intro pins s σ H Q I h
 refine wpAny_Call_Name_kw (ld_blt I hg hm hv ?_ hn hdb)
 exact PyProof.Rows.callWith_builtin1 (thn (ha pos pins s σ H _ I h) λus s1 ⟨vs,H1,I1,r1,q1⟩=>hc pins s1 σ H1 vs us Q I1 r1 q1) he hpl
theorem pe_callTy (hc:CallR X (.type T) r) (hg:Gl X x) (hm:X.mg x=none) (hv:bootBuiltins x=some (.type T)) (ha:PA X (e :: es) t) (hn:x≠"__name__":=by decide) (hdb:(x == ("__debug__":Str))=false:=by decide)
   (he:starEach (e :: es) X.env=(false,eval e X.env) :: starEach es X.env:=by rfl) (hpl:(backTo pos (starEach es X.env)).any (·.1)=false:=by rfl):PE X (.Call (.Name x p) (e :: es) [] pos) (tCB r t):=by
 intro pins s σ H Q I h
 refine wpAny_Call_Name_kw (ld_blt I hg hm hv ?_ hn hdb)
 exact PyProof.Rows.callWith_type1 (thn (ha pos pins s σ H _ I h) λus s1 ⟨vs,H1,I1,r1,q1⟩=>hc pins s1 σ H1 vs us Q I1 r1 q1) he hpl
end
end L2

namespace HT
open PySem PyProof.Rows

def lexLt:List Int->List Int->Bool
 | [],[]=>false
 | [],_ :: _=>true
 | _ :: _,[]=>false
 | x :: xs,y :: ys=>if x=y then lexLt xs ys else decide (x < y)
section
open PySem.SeqAt
open PySem.AutoSeq1 (wpAny_loadPart')
open PySem.MeetsSeq PySem.MeetsSeq2 PySem.MeetsSeq3

end

section
variable {prog:Program} {w:World} {A:Around} {E:Value->Shared->Prop} {s:Shared}

def sIx (n d:Nat):Option Int->Nat
 | none=>d
 | some v=>if v < 0 then (v+(n:Int)).toNat else min v.toNat n
theorem sIx_nat (n d k:Nat):sIx n d (some (k:Int))=min k n:=by
 show (if (k:Int) < 0 then ((k:Int)+(n:Int)).toNat else min (k:Int).toNat n)=min k n
 rw [if_neg (by omega),Int.toNat_natCast]
end
end HT

namespace L2
open PySem PySem.Spec PyProof.Rows

abbrev TO:=St->Hp->(Option Int->Hp->Prop)->Prop
def PO (X:Cx) (e:Option Expr) (t:TO):Prop :=
 ∀ (pins:List (Addr × Obj)) (s:Shared) (σ:St) (H:Hp) (Q:Option Int->Hp->Prop),Inv X pins σ H s->t σ H Q ->
   wpAny (model X.prog X.w) X.A (evalPart e X.env) (λu s'=>∃ o H',Inv X pins σ H' s'/\IsPart u o/\Q o H') X.xe s
def tNoPart:TO:=λ_ H Q=>Q none H
def tPart (t:TE):TO:=λσ H Q=>t σ H λx H1=>∃ i,x=.int i/\Q (some i) H1

section
variable {X:Cx} {e:Expr} {te:TE} {lo hi:Option Expr} {tl th:TO} {pos p2:Pos}

theorem po_none:PO X none tNoPart:=by
 intro pins s σ H Q I h
 rw [evalPart_none]
 exact wpAny_pure ⟨none,H,I,.none,h⟩
theorem po_some (h:PE X e te):PO X (some e) (tPart te):=by
 intro pins s σ H Q I hw
 rw [evalPart_some]
 refine thn (h pins s σ H _ I hw) λu s1 ⟨x,H1,I1,r1,q1⟩=>?_
 obtain ⟨i,rfl,q⟩:=q1
 obtain ⟨t,rfl⟩:=r1
 exact ⟨some i,H1,I1,.int i t,q⟩

def SlR (X:Cx) (r:V->Option Int->Option Int->Hp->VK->Prop):Prop :=
 ∀ (pins:List (Addr × Obj)) (s:Shared) (σ:St) (H:Hp) (x:V) (v vl vu:Value) (lo hi:Option Int) (sl:Addr) (Q:VK),Inv X pins σ H s->RelV x v->s.heap.IsSliceOf sl vl vu .none->IsPart vl lo->IsPart vu hi->r x lo hi H Q ->
   ∃ T id,typeLookup (.type T) "__getitem__"=pure (some (.builtin id))/\s.TypeIs v T/\wpAny (model X.prog X.w) X.A (getItem v (.ref sl)) (EP X pins σ Q) X.xe s
theorem SlR.or {r r':V->Option Int->Option Int->Hp->VK->Prop} (h:SlR X r) (h':SlR X r'):SlR X (λx lo hi H Q=>r x lo hi H Q\/r' x lo hi H Q):=by
 intro pins s σ H x v vl vu lo hi sl Q I rx hs pl pu q
 rcases q with q | q
 · exact h pins s σ H x v vl vu lo hi sl Q I rx hs pl pu q
 · exact h' pins s σ H x v vl vu lo hi sl Q I rx hs pl pu q
def tSl (r:V->Option Int->Option Int->Hp->VK->Prop) (te:TE) (tl th:TO):TE:=λσ H Q=>te σ H λx H1=>tl σ H1 λl H2=>th σ H2 λu H3=>r x l u H3 Q
theorem pe_slice {r:V->Option Int->Option Int->Hp->VK->Prop} (hr:SlR X r) (he:PE X e te) (hl:PO X lo tl) (hu:PO X hi th):PE X (.Subscript e (.Slice lo hi none p2) pos) (tSl r te tl th):=by
 intro pins s σ H Q I h
 refine Subscript_ (thn (he pins s σ H _ I h) λv s1 ⟨x,H1,I1,r1,q1⟩=>?_)
 refine wpAny_Slice (thn (hl pins s1 σ H1 _ I1 q1) λvl s2 ⟨l,H2,I2,pl,q2⟩=>thn (hu pins s2 σ H2 _ I2 q2) λvu s3 ⟨u,H3,I3,pu,q3⟩=>?_)
 rw [evalPart_none]
 refine wpAny_pure ?_
 have I4:Inv X pins σ H3 { s3 with heap:=s3.heap.push { cls:=.type "slice",data:=.fields #[vl,vu,.none] } }:=I3.kept (t':=s3.toks) λb ob q=>Heap.get?_push_of_some _ q
 obtain ⟨T,id,hT,ht,hg⟩:=hr pins { s3 with heap:=s3.heap.push { cls:=.type "slice",data:=.fields #[vl,vu,.none] } } σ H3 x v vl vu l u s3.heap.objs.size Q I4 r1 (Heap.IsSliceOf.new ..) pl pu q3
 show wpAny (model X.prog X.w) X.A (subscriptTail e (.Slice lo hi none p2) v (.ref s3.heap.objs.size)) (EP X pins σ Q) X.xe { s3 with heap:=s3.heap.push { cls:=.type "slice",data:=.fields #[vl,vu,.none] } }
 exact tail_any (ops:=[.ref s3.heap.objs.size,v]) ht hT hg (by with_unfolding_all rfl)

def cutV (xs:List V) (lo hi:Option Int):List V:=(xs.drop (HT.sIx xs.length 0 lo)).take (HT.sIx xs.length xs.length hi - HT.sIx xs.length 0 lo)
theorem cutV_length (xs:List V) (lo hi:Option Int):(cutV xs lo hi).length <= xs.length:=by
 unfold cutV
 rw [List.length_take,List.length_drop]
 omega
def rSlT (K:PySem.W.Frag):V->Option Int->Option Int->Hp->VK->Prop:=λx lo hi H Q=>∃ a xs,x=.ref a/\SqT K H a xs /\
 ¬ (HT.sIx xs.length 0 lo=0/\HT.sIx xs.length xs.length hi=xs.length)/\∀ p,H p=none->Q (.ref p) (upd H p (.tup (cutV xs lo hi)))
def rLtT (K:PySem.W.Frag):R2:=λx y H Q=>∃ a b ns ms,x=.ref a/\y=.ref b/\SqT K H a (ns.map V.int)/\SqT K H b (ms.map V.int)/\Q (.bl (HT.lexLt ns ms)) H
def rCatT (K:PySem.W.Frag):R2:=λx y H Q=>∃ a b xs ys,x=.ref a/\y=.ref b/\SqT K H a xs/\SqT K H b ys/\xs≠[]/\xs.length+ys.length <= sizeLine /\
 (ys=[]->Q (.ref a) H)/\(ys≠[]->∀ p,H p=none->Q (.ref p) (upd H p (.tup (xs++ys))))
end
end L2

namespace L2
open PySem PySem.Spec PyProof.Rows

def ixN (n:Nat) (i:Int):Option Nat:=if 0 <= i then (if i < n then some i.toNat else none) else if -(n:Int) <= i then some (i+n).toNat else none
def atI {α:Type} (xs:List α) (i:Int):Option α:=(ixN xs.length i).bind λj=>xs[j]?
theorem ixN_seq {n:Nat} {i:Int} {j:Nat} (h:ixN n i=some j):seqIndex? i n=some j/\j < n/\-(n:Int) <= i/\i < n:=by
 unfold ixN at h
 by_cases h0:0 <= i
 · rw [if_pos h0] at h
   by_cases h1:i < n
   · rw [if_pos h1] at h
     have e:i.toNat=j:=Option.some.inj h
     exact ⟨by rw [seqIndex_of h0 h1,e],by omega,by omega,h1⟩
   · rw [if_neg h1] at h;cases h
 · rw [if_neg h0] at h
   by_cases h1:-(n:Int) <= i
   · rw [if_pos h1] at h
     have e:(i+n).toNat=j:=Option.some.inj h
     exact ⟨by rw [seqIndex_neg (by omega) h1,e],by omega,h1,by omega⟩
   · rw [if_neg h1] at h;cases h
theorem atI_get {α:Type} {xs:List α} {i:Int} {v:α} (h:atI xs i=some v):∃ j,seqIndex? i xs.length=some j/\xs[j]?=some v/\j < xs.length/\-(xs.length:Int) <= i/\i < xs.length:=by
 unfold atI at h
 cases e:ixN xs.length i with
 | none=>rw [e] at h;cases h
 | some j =>
   rw [e] at h
   obtain ⟨h1,h2,h3,h4⟩:=ixN_seq e
   exact ⟨j,h1,h,h2,h3,h4⟩
theorem atI_nat {α:Type} {xs:List α} {j:Nat} {v:α} (h:xs[j]?=some v):atI xs (j:Int)=some v:=by
 have hj:j < xs.length:=(List.getElem?_eq_some_iff.mp h).1
 have e:ixN xs.length (j:Int)=some j:=by
   unfold ixN
   rw [if_pos (by omega),if_pos (by omega)];simp
 unfold atI;rw [e];exact h
def PlainIx (b:Expr):Prop:=∀ o i,subscripted b false o i=operate [o,i] (getItem o i)
def IxR (X:Cx) (r:R2):Prop :=
 ∀ (value slice:Expr) (pins:List (Addr × Obj)) (s:Shared) (σ:St) (H:Hp) (x y:V) (v u:Value) (Q:VK),Inv X pins σ H s->RelV x v->RelV y u->r x y H Q ->
   subscripted slice false v u=operate [v,u] (getItem v u)->wpAny (model X.prog X.w) X.A (subscriptTail value slice v u) (EP X pins σ Q) X.xe s
def MtR (X:Cx) (id:String) (r:V->List V->Hp->VK->Prop):Prop :=
 ∀ (pins:List (Addr × Obj)) (s:Shared) (σ:St) (H:Hp) (x:V) (xs:List V) (v:Value) (us:List Value) (Q:VK),Inv X pins σ H s->RelV x v->Vals xs us->r x xs H Q ->
   wpAny (model X.prog X.w) X.A (call (.builtin id) (v :: us)) (EP X pins σ Q) X.xe s
section
variable {X:Cx} {a b:Expr} {ta tb:TE} {pos:Pos}
theorem IxR.or {r r':R2} (h:IxR X r) (h':IxR X r'):IxR X (λx y H Q=>r x y H Q\/r' x y H Q):=by
 intro value slice pins s σ H x y v u Q I rx ry q hs
 rcases q with q | q
 · exact h value slice pins s σ H x y v u Q I rx ry q hs
 · exact h' value slice pins s σ H x y v u Q I rx ry q hs
theorem MtR.or {id:String} {r r':V->List V->Hp->VK->Prop} (h:MtR X id r) (h':MtR X id r'):MtR X id (λx xs H Q=>r x xs H Q\/r' x xs H Q):=by
 intro pins s σ H x xs v us Q I rx rs q
 rcases q with q | q
 · exact h pins s σ H x xs v us Q I rx rs q
 · exact h' pins s σ H x xs v us Q I rx rs q
theorem pe_ix {r:R2} (hr:IxR X r) (ha:PE X a ta) (hb:PE X b tb) (hs:PlainIx b):PE X (.Subscript a b pos) (tOp r ta tb):=by
 intro pins s σ H Q I h
 exact Subscript_ (binT ha hb I h λv u s2 x y H2 I2 rx ry q=>hr a b pins s2 σ H2 x y v u Q I2 rx ry q (hs _ _))

def rIxL (K:PySem.W.Frag):R2:=λx y H Q=>∃ p xs i v,x=.ref p/\y=.int i/\SqL K H p xs/\atI xs i=some v/\Q v H
def rIxT (K:PySem.W.Frag):R2:=λx y H Q=>∃ p xs i v,x=.ref p/\y=.int i/\SqT K H p xs/\atI xs i=some v/\Q v H
def rIxS:R2:=λx y H Q=>∃ z i c,x=.str z/\y=.int i/\z.length <= sizeLine/\atI z.cps.toList i=some c/\Q (.str ⟨#[c]⟩) H
theorem ix_list:IxR X (rIxL X.K):=by
 intro value slice pins s σ H x y v u Q I rx ry h hs
 obtain ⟨p,xs,i,z,rfl,rfl,hq,he,q⟩:=h
 cases rx
 obtain ⟨t,rfl⟩:=ry
 obtain ⟨its,r,pl,hz⟩:=I.list hq
 obtain ⟨j,h1,h2,h3,h4,h5⟩:=atI_get he
 obtain ⟨w,ew,rw'⟩:=r.get h2
 have hl:=r.length
 have hn:=line63
 have fin:EP X pins σ Q w s:=⟨z,H,I,rw',q⟩
 by_cases h0:0 <= i
 · have hj:i.toNat=j:=by
     rw [seqIndex_of h0 h5] at h1
     exact Option.some.inj h1
   exact item_listR pl.isList h0 (by omega) (by rw [hj];simpa using ew) fin hs
 · have hj:(i+(its.toArray.size:Int)).toNat=j:=by
     rw [seqIndex_neg (by omega) h4] at h1
     rw [List.size_toArray,← hl]
     exact Option.some.inj h1
   exact subscriptTail_builtinR (x:=w) pl.isList.typeIs slot_list_getitem.lookup
     (wpAny_getItem_list_neg (Q:=λr s'=>r=w/\EP X pins σ Q r s') pl.isList (by omega) (by rw [List.size_toArray]<;>omega) (by omega) (by rw [hj];simpa using ew) ⟨rfl,fin⟩) hs
theorem ix_tup:IxR X (rIxT X.K):=by
 intro value slice pins s σ H x y v u Q I rx ry h hs
 obtain ⟨p,xs,i,z,rfl,rfl,hq,he,q⟩:=h
 cases rx
 obtain ⟨t,rfl⟩:=ry
 obtain ⟨its,r,pl,hz⟩:=I.tuple hq
 obtain ⟨j,h1,h2,h3,h4,h5⟩:=atI_get he
 obtain ⟨w,ew,rw'⟩:=r.get h2
 have hl:=r.length
 have hn:=line63
 have fin:EP X pins σ Q w s:=⟨z,H,I,rw',q⟩
 exact subscriptTail_builtinR (x:=w) pl.typeIs slot_tuple_getitem.lookup
   (getItem_tuple (j:=j) (Q:=λr s'=>r=w/\EP X pins σ Q r s') pl (by omega) (by omega) (by rw [List.size_toArray,← hl];exact h1) (by simpa using ew) ⟨rfl,fin⟩) hs
def rIx (K:PySem.W.Frag):R2:=λx y H Q=>rIxL K x y H Q\/rIxT K x y H Q\/rIxS x y H Q
theorem mapSeq_set (its:List Value) (n j:Nat) (u:Value):Obj.mapSeq (·.setIfInBounds j u) { cls:=.type "list",data:=.seq its.toArray n }={ cls:=.type "list",data:=.seq (its.set j u).toArray n }:=by
 simp [Obj.mapSeq]
theorem Inv.lst {pins:List (Addr × Obj)} {σ:St} {H:Hp} {s:Shared} {p:Addr} {xs:List V} (I:Inv X pins σ H s) (h:H p=some (.lst xs)) :
   ∃ (its:List Value) (n:Nat),Vals xs its/\s.heap.get? p=some { cls:=.type "list",data:=.seq its.toArray n }/\xs.length <= sizeLine:=by
 obtain ⟨z,its,n,r,e⟩:=I.hok p _ h
 exact ⟨its,n,r,e,z⟩
theorem Inv.lstUpd {pins:List (Addr × Obj)} {σ:St} {H:Hp} {s:Shared} {p:Addr} {xs ys:List V} {its its':List Value} {n n':Nat} {f:Obj->Obj} (I:Inv X pins σ H s) (h:H p=some (.lst xs))
   (ho:s.heap.get? p=some { cls:=.type "list",data:=.seq its.toArray n }) (hf:f { cls:=.type "list",data:=.seq its.toArray n }={ cls:=.type "list",data:=.seq its'.toArray n' }) (r:Vals ys its') (hz:ys.length <= sizeLine) (t:Nat) :
   Inv X pins σ (upd H p (.lst ys)) { s with heap:=s.heap.update p f,toks:=t }:=by
 have e:(s.heap.update p f).get? p=some { cls:=.type "list",data:=.seq its'.toArray n' }:=by
   rw [Heap.get?_update_self f ho (by rw [hf]<;>rfl),hf]
 refine I.write (x:=p) (e:=p) (by rw [h];trivial) (.inl rfl) (λb u hb q=>(Heap.get?_update_other _ _ (Ne.symm hb)).trans q) ⟨_,e⟩ ?_
 exact ⟨hz,its',n',r,e⟩
def rSetL:V->V->V->Hp->(Hp->Prop)->Prop:=λo i v H Q=>∃ p xs k j,o=.ref p/\i=.int k/\H p=some (.lst xs)/\ixN xs.length k=some j/\Q (upd H p (.lst (xs.set j v)))
theorem set_list:PSet X rSetL:=by
 intro pins s σ H o i v ov iv u Q I ro ri rv h
 obtain ⟨p,xs,k,j,rfl,rfl,hp,hj,q⟩:=h
 cases ro
 obtain ⟨t,rfl⟩:=ri
 obtain ⟨its,n,r,ho,hz⟩:=I.lst hp
 obtain ⟨h1,h2,h3,h4⟩:=ixN_seq hj
 have hl:=r.length
 have hn:=line63
 have I':Inv X pins σ (upd H p (.lst (xs.set j v))) { s with heap:=s.heap.update p (Obj.mapSeq (·.setIfInBounds j u)) } :=
   I.lstUpd hp ho (mapSeq_set its n j u) (r.set rv j) (by rw [List.length_set];exact hz) s.toks
 by_cases h0:0 <= k
 · have hk:k.toNat=j:=by
     rw [seqIndex_of h0 h4] at h1
     exact Option.some.inj h1
   exact PySem.W.ki_setAt ho h0 (by omega) (by rw [List.size_toArray,← hl];exact h4) (by rw [hk];exact ⟨_,I',q⟩)
 · have hk:(k+(its.toArray.size:Int)).toNat=j:=by
     rw [seqIndex_neg (by omega) h3] at h1
     rw [List.size_toArray,← hl]
     exact Option.some.inj h1
   exact PySem.W.ki_setBack ho (by omega) (by rw [List.size_toArray,← hl];exact h3) (by omega) (by rw [hk];exact ⟨_,I',q⟩)

theorem slice_bounds (lo hi:Option Int) (n:Nat):(sliceBounds lo hi none n).1=((HT.sIx n 0 lo:Nat):Int)/\(sliceBounds lo hi none n).2.1=((HT.sIx n n hi:Nat):Int)/\(sliceBounds lo hi none n).2.2=1:=by
 refine ⟨?_,?_,rfl⟩
 · cases lo with
   | none=>simp [sliceBounds,HT.sIx]
   | some i =>
     simp only [sliceBounds,HT.sIx,Option.getD_none,show (1:Int) > 0 by decide,if_true]
     by_cases h:i < 0
     · simp only [h,if_true]<;>omega
     · simp only [h,if_false]<;>omega
 · cases hi with
   | none=>simp [sliceBounds,HT.sIx]
   | some i =>
     simp only [sliceBounds,HT.sIx,Option.getD_none,show (1:Int) > 0 by decide,if_true]
     by_cases h:i < 0
     · simp only [h,if_true]<;>omega
     · simp only [h,if_false]<;>omega
theorem slicePick_cut (its:List Value) (lo hi:Option Int):slicePick its.toArray lo hi none=((its.drop (HT.sIx its.length 0 lo)).take (HT.sIx its.length its.length hi - HT.sIx its.length 0 lo)).toArray:=by
 obtain ⟨h1,h2,h3⟩:=slice_bounds lo hi its.toArray.size
 unfold slicePick
 rw [h1,h2,h3]
 simp only [sliceRange_one,pick_run,List.size_toArray]<;>rfl
def rSlL (K:PySem.W.Frag):V->Option Int->Option Int->Hp->VK->Prop:=λx lo hi H Q=>∃ a xs,x=.ref a/\SqL K H a xs/\∀ p,H p=none->Q (.ref p) (upd H p (.lst (cutV xs lo hi)))
theorem sl_list:SlR X (rSlL X.K):=by
 intro pins s σ H x v vl vu lo hi sl Q I rx hs pl pu h
 obtain ⟨a,xs,rfl,hx,q⟩:=h
 cases rx
 obtain ⟨its,r,ht,hz⟩:=I.list hx
 have hlen:=r.length
 refine ⟨"list",_,slot_list_getitem.lookup,ht.isList.typeIs,?_⟩
 refine wpAny_getItem_list_slice ht.isList hs pl pu .none (by simp) ?_ (by rw [List.size_toArray]<;>omega)
 rw [slicePick_cut,← hlen]
 refine ⟨.ref s.heap.objs.size,_,I.laid (t':=s.toks) (o:=.lst (cutV xs lo hi)) (λb ob q=>Heap.get?_push_of_some _ q) (Nat.le_refl _) ?_,rfl,q _ (I.hok.fresh (Nat.le_refl _))⟩
 exact ⟨Nat.le_trans (cutV_length xs lo hi) hz,_,0,(r.drop (HT.sIx xs.length 0 lo)).take (HT.sIx xs.length xs.length hi - HT.sIx xs.length 0 lo),Heap.get?_push_size _ rfl⟩

def flatV:V->Bool
 | .non=>true
 | .bl _=>true
 | .int _=>true
 | .str _=>true
 | _=>false
def eqV:V->V->Bool
 | .non,.non=>true
 | .bl a,.bl b=>a == b
 | .bl a,.int b=>(if a then 1 else 0) == b
 | .int a,.bl b=>a == (if b then 1 else 0)
 | .int a,.int b=>a == b
 | .str a,.str b=>a == b
 | _,_=>false
theorem eqAt_V {A:Around} {s:Shared} {y x:V} {u v:Value} (ry:RelV y u) (rx:RelV x v) (fy:flatV y=true) (fx:flatV x=true):SeqAt.EqAt A s u v (eqV y x):=by
 cases y with
 | non =>
   cases ry
   cases x with
   | non=>cases rx;exact SeqAt.EqAt.same _
   | bl b=>cases rx;exact SeqAt.EqAt.none_bool b
   | int b=>obtain ⟨t,rfl⟩:=rx;exact SeqAt.EqAt.none_int b t
   | str b=>obtain ⟨t,rfl⟩:=rx;exact SeqAt.EqAt.none_str b t
   | _=>exact absurd (show false=true from fx) Bool.false_ne_true
 | bl a =>
   cases ry
   cases x with
   | non=>cases rx;exact SeqAt.EqAt.bool_none a
   | bl b=>cases rx;exact SeqAt.EqAt.bool_bool a b
   | int b=>obtain ⟨t,rfl⟩:=rx;exact SeqAt.EqAt.bool_int a b t
   | str b=>obtain ⟨t,rfl⟩:=rx;exact SeqAt.EqAt.bool_str a b t
   | _=>exact absurd (show false=true from fx) Bool.false_ne_true
 | int a =>
   obtain ⟨t',rfl⟩:=ry
   cases x with
   | non=>cases rx;exact SeqAt.EqAt.int_none a t'
   | bl b=>cases rx;exact SeqAt.EqAt.int_bool a t' b
   | int b=>obtain ⟨t,rfl⟩:=rx;exact SeqAt.EqAt.int_int a t' b t
   | str b=>obtain ⟨t,rfl⟩:=rx;exact SeqAt.EqAt.int_str a t' b t
   | _=>exact absurd (show false=true from fx) Bool.false_ne_true
 | str a =>
   obtain ⟨t',rfl⟩:=ry
   cases x with
   | non=>cases rx;exact SeqAt.EqAt.str_none a t'
   | bl b=>cases rx;exact SeqAt.EqAt.str_bool a t' b
   | int b=>obtain ⟨t,rfl⟩:=rx;exact SeqAt.EqAt.str_int a t' b t
   | str b=>obtain ⟨t,rfl⟩:=rx;exact SeqAt.EqAt.str_str a t' b t
   | _=>exact absurd (show false=true from fx) Bool.false_ne_true
 | _=>exact absurd (show false=true from fy) Bool.false_ne_true
def eqU (x:V) (u:Value):Bool:=match u with
 | .none=>eqV .non x
 | .bool b=>eqV (.bl b) x
 | .int i _=>eqV (.int i) x
 | .str z _=>eqV (.str z) x
 | _=>false
theorem eqU_of {x y:V} {u:Value} (r:RelV y u) (f:flatV y=true):eqU x u=eqV y x:=by
 cases y with
 | non=>cases r;rfl
 | bl b=>cases r;rfl
 | int i=>obtain ⟨t,rfl⟩:=r;rfl
 | str z=>obtain ⟨t,rfl⟩:=r;rfl
 | _=>exact absurd (show false=true from f) Bool.false_ne_true
theorem any_eqU {x:V}:∀ {xs:List V} {us:List Value},Vals xs us->xs.all flatV=true->us.any (eqU x)=xs.any λy=>eqV y x
 | _,_,.nil,_=>rfl
 | y :: xs,u :: us,.cons r t,f=>by
   rw [List.all_cons,Bool.and_eq_true] at f
   rw [List.any_cons,List.any_cons,eqU_of r f.1,any_eqU t f.2]
theorem mem_eqAt {A:Around} {s:Shared} {x:V} {v:Value} (rx:RelV x v) (fx:flatV x=true):∀ {xs:List V} {us:List Value},Vals xs us->xs.all flatV=true->∀ u∈us,SeqAt.EqAt A s u v (eqU x u)
 | _,_,.nil,_=>λu hu=>by cases hu
 | y :: xs,u :: us,.cons r t,f=>λu' hu=>by
   rw [List.all_cons,Bool.and_eq_true] at f
   rcases List.mem_cons.mp hu with rfl | hu
   · rw [eqU_of r f.1];exact eqAt_V r rx f.1 fx
   · exact mem_eqAt rx fx t f.2 u' hu
def inV (x:V) (xs:List V):Bool:=xs.any λy=>eqV y x
def rIn (K:PySem.W.Frag) (neg:Bool):R2:=λx y H Q=>∃ p xs,y=.ref p/\(SqL K H p xs\/SqT K H p xs)/\flatV x=true/\xs.all flatV=true/\Q (.bl (if neg then !inV x xs else inV x xs)) H
theorem op_in_seq:OpR X (compareOp .In) (rIn X.K false):=by
 intro pins s σ H x y v u Q I rx ry h
 obtain ⟨p,xs,rfl,hq,fx,fs,q⟩:=h
 cases ry
 rcases hq with hq | hq
 · obtain ⟨its,r,pl,hz⟩:=I.list hq
   refine SeqAt.in_listAt (eqU x) pl.isList (λw hw=>mem_eqAt rx fx r fs w (by simpa using hw)) ⟨.bl _,H,I,rfl,?_⟩
   rw [show its.toArray.any (eqU x)=its.any (eqU x) by simp,any_eqU r fs]
   exact q
 · obtain ⟨its,r,pl,hz⟩:=I.tuple hq
   refine SeqAt.in_tupleAt (eqU x) pl (λw hw=>mem_eqAt rx fx r fs w (by simpa using hw)) ⟨.bl _,H,I,rfl,?_⟩
   rw [show its.toArray.any (eqU x)=its.any (eqU x) by simp,any_eqU r fs]
   exact q
theorem op_notIn_seq:OpR X (compareOp .NotIn) (rIn X.K true):=by
 intro pins s σ H x y v u Q I rx ry h
 obtain ⟨p,xs,rfl,hq,fx,fs,q⟩:=h
 cases ry
 rcases hq with hq | hq
 · obtain ⟨its,r,pl,hz⟩:=I.list hq
   refine SeqAt.notIn_listAt (eqU x) pl.isList (λw hw=>mem_eqAt rx fx r fs w (by simpa using hw)) ⟨.bl _,H,I,rfl,?_⟩
   rw [show its.toArray.any (eqU x)=its.any (eqU x) by simp,any_eqU r fs]
   exact q
 · obtain ⟨its,r,pl,hz⟩:=I.tuple hq
   refine SeqAt.notIn_tupleAt (eqU x) pl (λw hw=>mem_eqAt rx fx r fs w (by simpa using hw)) ⟨.bl _,H,I,rfl,?_⟩
   rw [show its.toArray.any (eqU x)=its.any (eqU x) by simp,any_eqU r fs]
   exact q
theorem call_len_seq:CallR X (.builtin "len") (λxs H Q=>∃ p ys,xs=[.ref p]/\(SqL X.K H p ys\/SqT X.K H p ys)/\Q (.int ys.length) H):=by
 intro pins s σ H xs us Q I r h
 obtain ⟨p,ys,rfl,hq,q⟩:=h
 obtain ⟨u,rfl,rx⟩:=vals1 r
 cases rx
 have hn:=line63
 rcases hq with hq | hq
 · obtain ⟨its,r',pl,hz⟩:=I.list hq
   have hlen:=r'.length
   exact Calls.call_len_list pl.isList (by simp only [List.size_toArray]<;>omega) ⟨.int ys.length,H,I.tok _,⟨s.toks+1,by rw [List.size_toArray,hlen]⟩,q⟩
 · obtain ⟨its,r',pl,hz⟩:=I.tuple hq
   have hlen:=r'.length
   exact len_tuple pl (by simp only [List.size_toArray]<;>omega) ⟨.int ys.length,H,I.tok _,⟨s.toks+1,by rw [List.size_toArray,hlen]⟩,q⟩
theorem CallR.or {f:Value} {r r':List V->Hp->VK->Prop} (h:CallR X f r) (h':CallR X f r'):CallR X f (λxs H Q=>r xs H Q\/r' xs H Q):=by
 intro pins s σ H xs us Q I rs q
 rcases q with q | q
 · exact h pins s σ H xs us Q I rs q
 · exact h' pins s σ H xs us Q I rs q
theorem call_list_of:CallR X (.type "list") (λxs H Q=>∃ p ys,xs=[.ref p]/\(SqL X.K H p ys\/SqT X.K H p ys)/\∀ l,H l=none->Q (.ref l) (upd H l (.lst ys))):=by
 intro pins s σ H xs us Q I r h
 obtain ⟨p,ys,rfl,hq,q⟩:=h
 obtain ⟨u,rfl,rx⟩:=vals1 r
 cases rx
 have fin:∀ (its:List Value),Vals ys its->ys.length <= sizeLine->∀ (h':Heap) (c':Nat),(∀ b o',s.heap.get? b=some o'->h'.get? b=some o') ->
     h'.get? s.heap.objs.size=some { cls:=.type "list",dict:=none,data:=.seq its.toArray c',slots:=#[] }->EP X pins σ Q (.ref s.heap.objs.size) { s with heap:=h' }:=λits r' hz h' c' kp e =>
   ⟨.ref s.heap.objs.size,_,I.laid (t':=s.toks) kp (Nat.le_refl _) (show ObjOk X.prog X.w _ h' _ (.lst ys) from ⟨hz,its,c',r',e⟩),rfl,q _ (I.hok.fresh (Nat.le_refl _))⟩
 rcases hq with hq | hq
 · obtain ⟨its,r',pl,hz⟩:=I.list hq
   have hlen:=r'.length
   obtain ⟨o,ho,hc,n,hd⟩:=pl.isList
   exact call_list_seq p (.inl rfl) ho hc hd (λh' c' kp e=>fin its r' hz h' c' kp e) (by simp only [List.size_toArray]<;>omega)
 · obtain ⟨its,r',pl,hz⟩:=I.tuple hq
   have hlen:=r'.length
   obtain ⟨o,ho,hc,n,hd⟩:=pl
   exact call_list_seq p (.inr rfl) ho hc hd (λh' c' kp e=>fin its r' hz h' c' kp e) (by simp only [List.size_toArray]<;>omega)
def tyV (K:PySem.W.Frag) (T:String) (x:V) (H:Hp):Prop:=match x with
 | .str _=>T="str"
 | .int _=>T="int"
 | .ref p=>(T="list"/\∃ xs,SqL K H p xs)\/(T="tuple"/\∃ o,K.lookup p=some o/\o.cls=.type "tuple"/\o.dict=none) \/
     (T="dict"/\((∃ kvs,H p=some (.dK kvs))\/∃ kvs,H p=some (.dT kvs)))\/(T="set"/\∃ S n,H p=some (.set S n))
 | _=>False
theorem tyV_is {pins:List (Addr × Obj)} {σ:St} {H:Hp} {s:Shared} {T:String} {x:V} {v:Value} (I:Inv X pins σ H s) (r:RelV x v) (ty:tyV X.K T x H) :
   s.TypeIs v T/\∀ a,v=.ref a->∃ ob,s.heap.get? a=some ob/\ob.dict=none:=by
 cases x with
 | str z =>
   obtain ⟨t,rfl⟩:=r
   cases (show T="str" from ty)
   exact ⟨typeIs_str s z t,λ_ e=>nomatch e⟩
 | int i =>
   obtain ⟨t,rfl⟩:=r
   cases (show T="int" from ty)
   exact ⟨typeIs_int s i t,λ_ e=>nomatch e⟩
 | ref p =>
   cases r
   rcases ty with ⟨rfl,xs,hq⟩ | ⟨rfl,o,hk,hc,hd⟩ | ⟨rfl,hk⟩ | ⟨rfl,S,n,hk⟩
   · obtain ⟨its,_,pl,_⟩:=I.list hq
     refine ⟨pl.isList.typeIs,λa e=>?_⟩
     cases e
     obtain ⟨o,n,e,c,hd,_⟩:=pl
     exact ⟨o,e,hd⟩
   · refine ⟨⟨o,I.kIn p o hk,hc⟩,λa e=>?_⟩
     cases e
     exact ⟨o,I.kIn _ o hk,hd⟩
   · have z:∃ o,s.heap.get? p=some o/\o.ExactDict:=by
       rcases hk with ⟨kvs,hk⟩ | ⟨kvs,hk⟩
       · obtain ⟨_,_,_,_,o,_,_,e,ex,_⟩:=I.hok p _ hk
         exact ⟨o,e,ex⟩
       · obtain ⟨_,_,_,_,o,_,_,e,ex,_⟩:=I.hok p _ hk
         exact ⟨o,e,ex⟩
     obtain ⟨o,e,ex⟩:=z
     refine ⟨⟨o,e,ex.1⟩,λa e2=>?_⟩
     cases e2
     exact ⟨o,e,ex.2.1⟩
   · obtain ⟨o,_,_,_,e,ex,_⟩:=I.hok p _ hk
     refine ⟨⟨o,e,ex.1⟩,λa e2=>?_⟩
     cases e2
     exact ⟨o,e,ex.2.1⟩
 | _=>exact False.elim ty
def tBM0 (K:PySem.W.Frag) (T:String) (r:V->List V->Hp->VK->Prop) (to:TE):TE:=λσ H Q=>to σ H λx H1=>tyV K T x H1/\r x [] H1 Q
def tBM (K:PySem.W.Frag) (T:String) (r:V->List V->Hp->VK->Prop) (to:TE) (t:TA):TE:=λσ H Q=>to σ H λx H1=>tyV K T x H1/\t σ H1 λxs H2=>r x xs H2 Q
variable {o e:Expr} {es:List Expr} {to:TE} {t:TA} {name:Str} {apos cpos:Pos} {T id:String} {r:V->List V->Hp->VK->Prop}
theorem pe_bm (pa:PlainAttrs T) (slot:Slot T name id) (hty:typeOf (.builtin id)=pure (.type "method_descriptor")) (hm:MtR X id r) (ho:PE X o to) (ha:PA X (e :: es) t)
   (hbase:attributeBase o name X.env (eval o X.env)=eval o X.env:=by rfl)
   (hfew:((backTo cpos (starEach (e :: es) X.env)).all (λx=>!x.1) && (backToKw cpos (keywordEach [] X.env)).all (λx=>x.1.isSome)
     && decide ((e :: es).length+([]:List Keyword).length+(if ([]:List Keyword).isEmpty then 0 else 1) < 30))=true:=by rfl)
   (hline:(apos.endLine == cpos.line)=true:=by rfl) (hs:starEach (e :: es) X.env=(false,eval e X.env) :: starEach es X.env:=by rfl) (hplain:(backTo cpos (starEach es X.env)).any (·.1)=false:=by rfl) :
   PE X (.Call (.Attribute o name apos) (e :: es) [] cpos) (tBM X.K T r to t):=by
 intro pins s σ H Q I h
 refine wpAny_Call_method_late hbase hfew hline rfl (thn (ho pins s σ H _ I h) λv s1 ⟨x,H1,I1,r1,ty,q1⟩=>?_)
 obtain ⟨h1,h2⟩:=tyV_is I1 r1 ty
 refine ⟨T,id,pa,slot,hty,h1,h2,?_⟩
 have hA:=ha cpos pins s1 σ H1 _ I1 q1
 rw [hs] at hA ⊢
 refine Calls.callWith_builtin (by show (false || (backTo cpos (starEach es X.env)).any (·.1))=false;rw [hplain]<;>rfl) (Calls.evalArgs_plain ?_)
 exact thn hA λus s2 ⟨vs,H2,I2,r2,q2⟩=>hm pins s2 σ H2 x vs v us Q I2 r1 r2 q2
end
end L2

namespace L2
open PySem PySem.Spec PyProof.Rows

def MtM (X:Cx) (id:String) (r:V->List V->Hp->VK->Prop):Prop :=
 ∀ (pins:List (Addr × Obj)) (s:Shared) (σ:St) (H:Hp) (x:V) (xs:List V) (v:Value) (us:List Value) (Q:VK),Inv X pins σ H s->RelV x v->Vals xs us->r x xs H Q ->
   wpAny (model X.prog X.w) X.A (call (.builtin id) (v :: us)) (EP X pins σ Q) X.xe s

theorem Vals.one:∀ {x:V} {us:List Value},Vals [x] us->∃ u,us=[u]/\RelV x u
 | _,_,.cons r .nil=>⟨_,rfl,r⟩
theorem Vals.two:∀ {x y:V} {us:List Value},Vals [x,y] us->∃ u v,us=[u,v]/\RelV x u/\RelV y v
 | _,_,_,.cons r (.cons q .nil)=>⟨_,_,rfl,r,q⟩
theorem Vals.zero:∀ {us:List Value},Vals [] us->us=[]
 | _,.nil=>rfl
theorem Vals.dropLast {xs:List V} {us:List Value} (h:Vals xs us):Vals xs.dropLast us.dropLast:=by
 induction h with
 | nil=>exact .nil
 | cons r t ih =>
   cases t with
   | nil=>exact .nil
   | cons q t'=>exact .cons r ih
theorem Vals.eraseIdx:∀ {xs:List V} {us:List Value} (i:Nat),Vals xs us->Vals (xs.eraseIdx i) (us.eraseIdx i)
 | _,_,_,.nil=>.nil
 | _,_,0,.cons _ t=>t
 | _,_,i+1,.cons r t=>.cons r (Vals.eraseIdx i t)
theorem Vals.reverse {xs:List V} {us:List Value} (h:Vals xs us):Vals xs.reverse us.reverse:=by
 induction h with
 | nil=>exact .nil
 | cons r t ih=>rw [List.reverse_cons,List.reverse_cons];exact Vals.append ih (.cons r .nil)
theorem len_erase {α:Type}:∀ (l:List α) (i:Nat),(l.eraseIdx i).length <= l.length
 | [],_=>Nat.le_refl _
 | _ :: _,0=>Nat.le_succ _
 | _ :: r,i+1=>Nat.succ_le_succ (len_erase r i)
section
variable {X:Cx} {pins:List (Addr × Obj)} {σ:St} {H:Hp} {s:Shared} {l b:Addr} {xs ys zs:List V}

theorem Inv.lset {its its':List Value} {n:Nat} {f:Array Value->Array Value} {t':Nat} (I:Inv X pins σ H s) (hH:H l=some (.lst xs))
   (e:s.heap.get? l=some { cls:=.type "list",data:=.seq its.toArray n }) (hf:f its.toArray=its'.toArray) (hv:Vals ys its') (hz:ys.length <= sizeLine) :
   Inv X pins σ (upd H l (.lst ys)) { s with heap:=s.heap.update l (Obj.mapSeq f),toks:=t' }:=by
 have q:=PySem.IsL.update e f
 rw [hf] at q
 refine I.write (x:=l) (e:=l) (by rw [hH];exact trivial) (.inl rfl) (λb' u hb hu=>(Heap.get?_update_other s.heap (Obj.mapSeq f) (Ne.symm hb)).trans hu) ⟨_,q⟩ ?_
 exact ⟨hz,its',_,hv,q⟩
theorem Inv.lnew {its:List Value} {t':Nat} (I:Inv X pins σ H s) (hv:Vals ys its) (hz:ys.length <= sizeLine) :
   Inv X pins σ (upd H s.heap.objs.size (.lst ys)) { s with heap:=s.heap.push { cls:=.type "list",data:=.seq its.toArray },toks:=t' } :=
 I.laid (λ_ _ q=>Heap.get?_push_of_some _ q) (Nat.le_refl _) ⟨hz,its,0,hv,Heap.get?_push_size _ rfl⟩
theorem Inv.fresh (I:Inv X pins σ H s):H s.heap.objs.size=none:=I.hok.fresh (Nat.le_refl _)
theorem Inv.lstM (I:Inv X pins σ H s) (hH:H l=some (.lst xs)):xs.length <= sizeLine/\∃ (its:List Value) (n:Nat),Vals xs its/\xs.length=its.length/\s.heap.get? l=some { cls:=.type "list",data:=.seq its.toArray n }:=by
 obtain ⟨z,its,n,r,e⟩:=I.hok l _ hH
 exact ⟨z,its,n,r,r.length,e⟩

end

section
variable {X:Cx}

def rAppend:V->List V->Hp->VK->Prop:=λx vs H Q=>∃ l xs y,x=.ref l/\vs=[y]/\H l=some (.lst xs)/\xs.length < sizeLine/\Q .non (upd H l (.lst (xs++[y])))
theorem mt_append:MtM X "list.append" rAppend:=by
 intro pins s σ H x vs v us Q I rx rv h
 obtain ⟨l,xs,y,rfl,rfl,hH,hz,q⟩:=h
 cases rx
 obtain ⟨u,rfl,ru⟩:=rv.one
 obtain ⟨z,its,n,r,hl,e⟩:=I.lstM hH
 refine call_meets F.slot_list_append ⟨_,e,rfl⟩ F.entry_list_append (F.args_list_append_2 _ _) (PySem.list_append l its.toArray n u (by rw [List.size_toArray];omega)) ⟨e,?_⟩
 refine ⟨.non,_,I.lset (its':=its++[u]) hH e (by simp) (r.append (.cons ru .nil)) ?_,rfl,q⟩
 rw [List.length_append,List.length_singleton]
 omega

def rExtend:V->List V->Hp->VK->Prop:=λx vs H Q=>∃ l b xs zs,x=.ref l/\vs=[.ref b]/\H l=some (.lst xs)/\H b=some (.lst zs)/\xs.length+zs.length <= sizeLine/\Q .non (upd H l (.lst (xs++zs)))
def rPop:V->List V->Hp->VK->Prop:=λx vs H Q=>∃ l xs y,x=.ref l/\vs=[]/\H l=some (.lst xs)/\xs[xs.length - 1]?=some y/\Q y (upd H l (.lst xs.dropLast))
def rPopAt:V->List V->Hp->VK->Prop:=λx vs H Q=>∃ l xs i k y,x=.ref l/\vs=[.int i]/\H l=some (.lst xs)/\-(2 ^ 63) <= i/\i < 2 ^ 63/\seqIndex? i xs.length=some k/\xs[k]?=some y/\Q y (upd H l (.lst (xs.eraseIdx k)))
theorem mt_popAt:MtM X "list.pop" rPopAt:=by
 intro pins s σ H x vs v us Q I rx rv h
 obtain ⟨l,xs,i,k,y,rfl,rfl,hH,h1,h2,hk,hy,q⟩:=h
 cases rx
 obtain ⟨u,rfl,ru⟩:=rv.one
 obtain ⟨t,rfl⟩:=ru
 obtain ⟨z,its,n,r,hl,e⟩:=I.lstM hH
 obtain ⟨w,hw,rw'⟩:=r.get hy
 refine call_meets F.slot_list_pop ⟨_,e,rfl⟩ F.entry_list_pop (F.args_list_pop_2 _ _)
   (MeetsSeq.list_pop_at l its.toArray n i t k w (fitsIndex_both h1 h2) (by rw [List.size_toArray,← hl];exact hk) (by rw [← Array.getElem?_toList];exact hw) (by rw [List.size_toArray];omega)) ⟨e,?_⟩
 refine ⟨y,_,I.lset (its':=its.eraseIdx k) hH e ?_ (r.eraseIdx k) ?_,rw',q⟩
 · show its.toArray.eraseIdxIfInBounds k=(its.eraseIdx k).toArray
   rw [List.eraseIdxIfInBounds_toArray]
 · have:=len_erase xs k
   omega

def rReverse:V->List V->Hp->VK->Prop:=λx vs H Q=>∃ l xs,x=.ref l/\vs=[]/\H l=some (.lst xs)/\Q .non (upd H l (.lst xs.reverse))
def rClear:V->List V->Hp->VK->Prop:=λx vs H Q=>∃ l xs,x=.ref l/\vs=[]/\H l=some (.lst xs)/\Q .non (upd H l (.lst []))
def rCat:R2:=λx y H Q=>∃ l b xs zs,x=.ref l/\y=.ref b/\H l=some (.lst xs)/\H b=some (.lst zs)/\xs.length+zs.length <= sizeLine/\∀ p,H p=none->Q (.ref p) (upd H p (.lst (xs++zs)))
theorem op_cat:OpR X (binaryOp .Add) rCat:=by
 intro pins s σ H x y v u Q I rx ry h
 obtain ⟨l,b,xs,zs,rfl,rfl,hH,hB,hz,q⟩:=h
 cases rx
 cases ry
 obtain ⟨z,its,n,r,hl,e⟩:=I.lstM hH
 obtain ⟨z2,its2,n2,r2,hl2,e2⟩:=I.lstM hB
 refine PySem.P.add_list e e2 ?_ (by rw [List.size_toArray,List.size_toArray];omega)
 have ea:its.toArray++its2.toArray=(its++its2).toArray:=by simp
 rw [ea]
 exact ⟨.ref _,_,I.lnew (t':=s.toks) (r.append r2) (by rw [List.length_append];omega),rfl,q _ I.fresh⟩
def rRep:R2:=λx y H Q=>∃ l k xs,x=.ref l/\y=.int k/\H l=some (.lst xs)/\-(2 ^ 63) <= k/\k < 2 ^ 63/\xs.length * k.toNat <= sizeLine /\
 ∀ p,H p=none->Q (.ref p) (upd H p (.lst (List.replicate k.toNat xs).flatten))
end

section
variable {prog:Program} {w:World} {A:Around} {E:Value->Shared->Prop} {s:Shared}
end

section
variable {X:Cx}
end
end L2

namespace L2
open PySem PySem.Spec PyProof.Rows

section
variable {κ:Type} [DecidableEq κ]
def valV (kvs:List (κ × V)) (k:κ):Option V:=(kvs.find? λkv=>decide (kv.1=k)).map (·.2)
def putK (kvs:List (κ × V)) (k:κ) (v:V):List (κ × V) :=
 if (kvs.any λkv=>decide (kv.1=k))=true then kvs.map (λkv=>if kv.1=k then (kv.1,v) else kv) else kvs++[(k,v)]
def dropK (kvs:List (κ × V)) (k:κ):List (κ × V):=kvs.filter λkv=>decide (kv.1≠k)

theorem valV_pos {p:κ × V} {r:List (κ × V)} {k:κ} (e:p.1=k):valV (p :: r) k=some p.2:=by simp [valV,List.find?_cons,e]
theorem valV_neg {p:κ × V} {r:List (κ × V)} {k:κ} (e:¬ p.1=k):valV (p :: r) k=valV r k:=by simp [valV,List.find?_cons,e]
theorem valV_any (k:κ):∀ kvs:List (κ × V),(kvs.any λkv=>decide (kv.1=k))=(valV kvs k).isSome
 | []=>rfl
 | p :: r=>by
   rw [List.any_cons]
   by_cases e:p.1=k
   · simp only [valV_pos e,decide_eq_true e,Bool.true_or,Option.isSome_some]
   · rw [valV_neg e,decide_eq_false e,Bool.false_or];exact valV_any k r
theorem length_putK (kvs:List (κ × V)) (k:κ) (v:V):(putK kvs k v).length <= kvs.length+1:=by
 unfold putK
 split
 · rw [List.length_map];omega
 · rw [List.length_append,List.length_cons,List.length_nil];omega
theorem RelO.isSome_eq {o:Option V} {u:Option Value} (r:RelO o u):o.isSome=u.isSome:=by
 cases o with
 | none=>cases u with
   | none=>rfl
   | some _=>exact (show False from r).elim
 | some _=>cases u with
   | none=>exact (show False from r).elim
   | some _=>rfl
theorem RelO.getD {o:Option V} {u:Option Value} {d:V} {d':Value} (r:RelO o u) (rd:RelV d d'):RelV (o.getD d) (u.getD d'):=by
 cases o with
 | none=>cases u with
   | none=>exact rd
   | some _=>exact (show False from r).elim
 | some _=>cases u with
   | none=>exact (show False from r).elim
   | some _=>exact r

theorem KV.val {kvs:List (κ × V)} {vs:List (κ × Value)} (r:KV kvs vs) (k:κ):RelO (valV kvs k) (valueAt vs k):=by
 unfold KV at r
 induction r with
 | nil=>exact True.intro
 | @cons p q ps qs h t ih =>
   obtain ⟨h1,h2⟩:=h
   by_cases e:p.1=k
   · have e':q.1=k:=h1.symm.trans e
     have b:valueAt (q :: qs) k=some q.2:=by simp [valueAt,List.find?_cons,e']
     rw [valV_pos e,b];exact h2
   · have e':¬ q.1=k:=λz=>e (h1.trans z)
     have b:valueAt (q :: qs) k=valueAt qs k:=by simp [valueAt,List.find?_cons,e']
     rw [valV_neg e,b];exact ih
theorem KV.any {kvs:List (κ × V)} {vs:List (κ × Value)} (r:KV kvs vs) (k:κ):(kvs.any λkv=>decide (kv.1=k))=vs.any λkv=>decide (kv.1=k):=by
 unfold KV at r
 induction r with
 | nil=>rfl
 | cons h t ih=>rw [List.any_cons,List.any_cons,ih,h.1]
theorem KV.repl {kvs:List (κ × V)} {vs:List (κ × Value)} (r:KV kvs vs) (k:κ) {y:V} {u:Value} (ry:RelV y u) :
   KV (kvs.map λkv=>if kv.1=k then (kv.1,y) else kv) (vs.map λkv=>if kv.1=k then (kv.1,u) else kv):=by
 unfold KV at r ⊢
 induction r with
 | nil=>exact .nil
 | @cons p q ps qs h t ih =>
   rw [List.map_cons,List.map_cons]
   refine .cons ?_ ih
   obtain ⟨h1,h2⟩:=h
   by_cases e:p.1=k
   · rw [if_pos e,if_pos (h1.symm.trans e)];exact ⟨h1,ry⟩
   · rw [if_neg e,if_neg (λz=>e (h1.trans z))];exact ⟨h1,h2⟩
theorem KV.put {kvs:List (κ × V)} {vs:List (κ × Value)} (r:KV kvs vs) (k:κ) {y:V} {u:Value} (ry:RelV y u):KV (putK kvs k y) (stored vs k u):=by
 unfold putK stored
 rw [r.any k]
 by_cases e:(vs.any λkv=>decide (kv.1=k))=true
 · rw [if_pos e,if_pos e];exact r.repl k ry
 · rw [if_neg e,if_neg e];exact Paired.snoc r ⟨rfl,ry⟩
theorem KV.drop {kvs:List (κ × V)} {vs:List (κ × Value)} (r:KV kvs vs) (k:κ):KV (dropK kvs k) (without vs k):=by
 unfold KV at r ⊢
 unfold dropK without
 induction r with
 | nil=>exact .nil
 | @cons p q ps qs h t ih =>
   obtain ⟨h1,h2⟩:=h
   rw [List.filter_cons,List.filter_cons]
   by_cases e:p.1=k
   · have a:¬ decide (p.1≠k)=true:=by simp [e]
     have b:¬ decide (q.1≠k)=true:=by simp [h1.symm.trans e]
     rw [if_neg a,if_neg b];exact ih
   · have e':¬ q.1=k:=λz=>e (h1.trans z)
     have a:decide (p.1≠k)=true:=by simp [e]
     have b:decide (q.1≠k)=true:=by simp [e']
     rw [if_pos a,if_pos b];exact .cons ⟨h1,h2⟩ ih
theorem KV.keys {kvs:List (κ × V)} {vs:List (κ × Value)} (r:KV kvs vs):kvs.map (·.1)=vs.map (·.1):=by
 unfold KV at r
 induction r with
 | nil=>rfl
 | cons h t ih=>rw [List.map_cons,List.map_cons,ih,h.1]
theorem KV.length {kvs:List (κ × V)} {vs:List (κ × Value)} (r:KV kvs vs):kvs.length=vs.length:=Paired.length r
theorem dropK_le (kvs:List (κ × V)) (k:κ):(dropK kvs k).length <= kvs.length:=List.length_filter_le _ _
end


theorem kV_is {P:Program} {w:World} {k:Key} {u:Value} (r:RelV (kV k) u):(mixKind P w).is k u=true:=by
 cases k with
 | inl i=>obtain ⟨t,e⟩:=(show ∃ t,u=Value.int i t from r);subst e;exact mixKind_int P w i t
 | inr x=>obtain ⟨t,e⟩:=(show ∃ t,u=Value.str x t from r);subst e;exact mixKind_str P w x t
theorem items_are {P:Program} {w:World}:∀ {ks:List Key} {us:List Value},Vals (ks.map kV) us->ItemsAre (mixKind P w) ks us
 | [],_,r=>by rw [List.map_nil] at r;cases r;exact .nil
 | k :: ks,_,r=>by
   rw [List.map_cons] at r
   cases r with
   | cons h t=>exact .cons (kV_is h) (items_are t)

abbrev KT (H:Hp):List (List Key × V)->List (List Key × Addr × Value)->Prop:=Paired λp q=>p.1=q.1/\H q.2.1=some (.tup (p.1.map kV))/\RelV p.2 q.2.2
theorem KT.val {H:Hp} {kvs:List (List Key × V)} {xs:List (List Key × Addr × Value)} (r:KT H kvs xs) (k:List Key):RelO (valV kvs k) ((atKey xs k).map (·.2)):=by
 induction r with
 | nil=>exact True.intro
 | @cons p q ps qs h t ih =>
   obtain ⟨h1,_,h2⟩:=h
   by_cases e:p.1=k
   · have e':q.1=k:=h1.symm.trans e
     have b:atKey (q :: qs) k=some q.2:=by simp [atKey,List.find?_cons,e']
     rw [valV_pos e,b];exact h2
   · have e':¬ q.1=k:=λz=>e (h1.trans z)
     have b:atKey (q :: qs) k=atKey qs k:=by simp [atKey,List.find?_cons,e']
     rw [valV_neg e,b];exact ih
theorem KT.repl {H:Hp} {kvs:List (List Key × V)} {xs:List (List Key × Addr × Value)} (r:KT H kvs xs) (k:List Key) {y:V} {u:Value} (ry:RelV y u) :
   KT H (kvs.map λkv=>if kv.1=k then (kv.1,y) else kv) (xs.map (putAt k u)):=by
 induction r with
 | nil=>exact .nil
 | @cons p q ps qs h t ih =>
   rw [List.map_cons,List.map_cons]
   refine .cons ?_ ih
   obtain ⟨h1,h2,h3⟩:=h
   unfold putAt
   by_cases e:p.1=k
   · rw [if_pos e,if_pos (h1.symm.trans e)];exact ⟨h1,h2,ry⟩
   · rw [if_neg e,if_neg (λz=>e (h1.trans z))];exact ⟨h1,h2,h3⟩
theorem KT.put {H:Hp} {kvs:List (List Key × V)} {xs:List (List Key × Addr × Value)} (r:KT H kvs xs) (k:List Key) {b:Addr} {y:V} {u:Value} (hb:H b=some (.tup (k.map kV))) (ry:RelV y u) :
   KT H (putK kvs k y) (storedH xs k b u):=by
 have e:(kvs.any λkv=>decide (kv.1=k))=(atKey xs k).isSome:=by
   rw [valV_any,(r.val k).isSome_eq,Option.isSome_map]
 unfold putK storedH
 rw [e]
 by_cases q:(atKey xs k).isSome=true
 · rw [if_pos q,if_pos q];exact r.repl k ry
 · rw [if_neg q,if_neg q];exact Paired.snoc r ⟨rfl,hb,ry⟩
theorem KT.keeps {H H':Hp} {kvs:List (List Key × V)} {xs:List (List Key × Addr × Value)} (r:KT H kvs xs) (ht:∀ b ys,H b=some (.tup ys)->H' b=some (.tup ys)):KT H' kvs xs :=
 Paired.mapP r λ_ _ z=>⟨z.1,ht _ _ z.2.1,z.2.2⟩

section
variable {P:Program} {w:World} {H:Hp} {h:Heap} {a:Addr}
theorem rd_of {u:HO} (ok:HOk P w H h) (e:Rd H a u):ObjOk P w H h a u:=e.ok ok
theorem dk_rd {kvs:List (Key × V)} (ok:HOk P w H h) (e:Rd H a (.dK kvs)):kvs.length <= sizeLine/\(a == sysModules)=false/\∃ vs,KV kvs vs/\h.DictOf (mixKind P w) a vs :=
 show ObjOk P w H h a (.dK kvs) from rd_of ok e
theorem dk_of {kvs:List (Key × V)} (ok:HOk P w H h) (e:H a=some (.dK kvs)):kvs.length <= sizeLine/\(a == sysModules)=false/\∃ vs,KV kvs vs/\h.DictOf (mixKind P w) a vs:=dk_rd ok (.inl e)
theorem key_of {ks:List Key} (ok:HOk P w H h) (e:H a=some (.tup (ks.map kV))):(tupleKind (mixKind P w)).is h ks a:=by
 obtain ⟨_,its,r,o,h1,h2,n,h3⟩:=(show ObjOk P w H h a (.tup (ks.map kV)) from ok a _ e)
 exact ⟨o,its.toArray,n,h1,h2,h3,by simpa using items_are r⟩
theorem dt_rd {kvs:List (List Key × V)} (ok:HOk P w H h) (e:Rd H a (.dT kvs)):kvs.length <= sizeLine/\(a == sysModules)=false /\
   ∃ xs,KT H kvs xs/\h.DictOfH (tupleKind (mixKind P w)) a xs:=by
 obtain ⟨z,y,xs,r,o,es,ep,h1,h2,h3,h4,h5⟩:=(show ObjOk P w H h a (.dT kvs) from rd_of ok e)
 refine ⟨z,y,xs,r,o,es,ep,h1,h2,h3,h4,λx hx=>?_,h5⟩
 have all:∀ {l:List (List Key × V)} {m:List (List Key × Addr × Value)},KT H l m->∀ x∈m,(tupleKind (mixKind P w)).is h x.1 x.2.1:=by
   intro l m q
   induction q with
   | nil=>intro x hx;exact nomatch hx
   | @cons p q ps qs hq t ih =>
     intro x hx
     rcases List.mem_cons.mp hx with e | hx
     · subst e
       exact key_of ok (by rw [← hq.1];exact hq.2.1)
     · exact ih x hx
 exact all r x hx
theorem dt_of {kvs:List (List Key × V)} (ok:HOk P w H h) (e:H a=some (.dT kvs)):kvs.length <= sizeLine/\(a == sysModules)=false /\
   ∃ xs,KT H kvs xs/\h.DictOfH (tupleKind (mixKind P w)) a xs:=dt_rd ok (.inl e)
end

def DGet (H:Hp) (a:Addr) (y:V) (r:Option V):Prop :=
 (∃ kvs k,Rd H a (.dK kvs)/\y=kV k/\r=valV kvs k)\/∃ kvs k b,Rd H a (.dT kvs)/\y=.ref b/\H b=some (.tup (k.map kV))/\r=valV kvs k
def DPut (H:Hp) (a:Addr) (y v:V) (H':Hp):Prop :=
 (∃ kvs k,H a=some (.dK kvs)/\y=kV k/\kvs.length < sizeLine/\H'=upd H a (.dK (putK kvs k v))) \/
 ∃ kvs k b,H a=some (.dT kvs)/\y=.ref b/\H b=some (.tup (k.map kV))/\kvs.length < sizeLine/\H'=upd H a (.dT (putK kvs k v))
theorem DGet.k {H:Hp} {a:Addr} {kvs:List (Key × V)} {k:Key} (e:H a=some (.dK kvs)):DGet H a (kV k) (valV kvs k):=.inl ⟨kvs,k,.inl e,rfl,rfl⟩
theorem DGet.t {H:Hp} {a b:Addr} {kvs:List (List Key × V)} {k:List Key} (e:H a=some (.dT kvs)) (eb:H b=some (.tup (k.map kV))):DGet H a (.ref b) (valV kvs k):=.inr ⟨kvs,k,b,.inl e,rfl,eb,rfl⟩
theorem DPut.k {H:Hp} {a:Addr} {kvs:List (Key × V)} {k:Key} {v:V} (e:H a=some (.dK kvs)) (hl:kvs.length < sizeLine):DPut H a (kV k) v (upd H a (.dK (putK kvs k v))):=.inl ⟨kvs,k,e,rfl,hl,rfl⟩
theorem DPut.t {H:Hp} {a b:Addr} {kvs:List (List Key × V)} {k:List Key} {v:V} (e:H a=some (.dT kvs)) (eb:H b=some (.tup (k.map kV))) (hl:kvs.length < sizeLine) :
   DPut H a (.ref b) v (upd H a (.dT (putK kvs k v))):=.inr ⟨kvs,k,b,e,rfl,eb,hl,rfl⟩


section
variable {X:Cx} {pins:List (Addr × Obj)} {σ:St} {H:Hp} {s:Shared} {a:Addr} {y v:V} {u r:Value} {o:Option V} {A:Around} {E:Value->Shared->Prop}

theorem Inv.big (I:Inv X pins σ H s):sysModules < s.heap.objs.size:=by
 have h:mainGlobals < s.heap.objs.size:=(I.mod.glob.keeps I.bk).lt
 exact Nat.lt_trans (by decide) h

theorem d_notIn {Q:Value->Shared->Prop} (hu:A.units+1 < cLine) (I:Inv X pins σ H s) (g:DGet H a y o) (ry:RelV y u) (h:∀ s',Inv X pins σ H s'->Q (.bool (!o.isSome)) s') :
   wpAny (model X.prog X.w) A (compareOp .NotIn u (.ref a)) Q E s:=by
 rcases g with ⟨kvs,k,e,ey,l⟩ | ⟨kvs,k,b,e,ey,eb,l⟩
 · subst ey
   obtain ⟨z,hd,vs,rel,dd⟩:=dk_rd I.hok e
   refine wpAny_notIn_of (kV_is ry) hd dd.mapOf ?_
   rw [← (rel.val k).isSome_eq,← l]
   exact h _ (I.tok _)
 · subst ey
   cases (show u=Value.ref b from ry)
   obtain ⟨z,hd,xs,rel,dd⟩:=dt_rd I.hok e
   refine wpAny_notIn_heap (tupleKind_room_in1 hu) (key_of I.hok eb) hd dd ?_
   have q:=(rel.val k).isSome_eq
   rw [Option.isSome_map] at q
   rw [← q,← l]
   exact h _ (I.tok _)
theorem d_write {h':Heap} {t':Nat} {ob:HO} (I:Inv X pins σ H s) (mu:Mut (H a)) (hs:Heap.SameBut a s.heap h') (he:∃ q,h'.get? a=some q) (new:ObjOk X.prog X.w (upd H a ob) h' a ob) :
   Inv X pins σ (upd H a ob) { s with heap:=h',toks:=t' } :=
 I.write (x:=a) (e:=a) mu (.inl rfl) (λb q hb z=>(hs.2 b hb).trans z) he new
theorem dk_new {P:Program} {w:World} {H':Hp} {h':Heap} {kvs:List (Key × V)} {vs:List (Key × Value)} (z:kvs.length <= sizeLine) (hd:(a == sysModules)=false) (rel:KV kvs vs) (dd:h'.DictOf (mixKind P w) a vs) :
   ObjOk P w H' h' a (.dK kvs):=⟨z,hd,vs,rel,dd⟩
theorem d_setItem {H':Hp} {Q:Unit->Shared->Prop} (hu:A.units+1 < cLine) (I:Inv X pins σ H s) (g:DPut H a y v H') (ry:RelV y u) (rv:RelV v r) (h:∀ s',Inv X pins σ H' s'->Q () s') :
   wpAny (model X.prog X.w) A (setItem (.ref a) u r) Q E s:=by
 rcases g with ⟨kvs,k,e,ey,l,eH⟩ | ⟨kvs,k,b,e,ey,eb,l,eH⟩
 · subst ey eH
   obtain ⟨z,hd,vs,rel,dd⟩:=dk_of I.hok e
   have hz:vs.length <= sizeLine:=by rw [← rel.length];exact z
   have hl:(putK kvs k v).length <= sizeLine:=by have:=length_putK kvs k v;omega
   refine wpAny_setItem_pairs (hsz:=hz) (kV_is ry) dd λh' dd' hs=>h _ ?_
   have he:∃ q,h'.get? a=some q:=let ⟨q,_,_,hq,_⟩:=dd';⟨q,hq⟩
   exact d_write I (by rw [e];exact True.intro) hs he (dk_new hl hd (rel.put k rv) dd')
 · subst ey eH
   cases (show u=Value.ref b from ry)
   obtain ⟨z,hd,xs,rel,dd⟩:=dt_of I.hok e
   have hz:xs.length <= sizeLine:=by rw [← Paired.length rel];exact z
   have hl:(putK kvs k v).length <= sizeLine:=by have:=length_putK kvs k v;omega
   refine wpAny_setItem_heap (hsz:=hz) (tupleKind_room_in1 hu) (key_of I.hok eb) dd λh' dd' hs=>h _ ?_
   obtain ⟨q,es,ep,hq,h2,h3,h4,_,h5⟩:=dd'
   refine d_write I (by rw [e];exact True.intro) hs ⟨q,hq⟩ ⟨hl,hd,_,(rel.put k eb rv).keeps λc ys ec=>?_,q,es,ep,hq,h2,h3,h4,h5⟩
   rw [upd_ne (ne_of ec e (λz=>nomatch z))]
   exact ec
end

section
variable {X:Cx} {pins:List (Addr × Obj)} {σ:St} {H:Hp} {s:Shared} {a:Addr} {kvs:List (Key × V)} {k:Key} {u:Value} {A:Around} {E:Value->Shared->Prop}
theorem d_pop {v:V} {more:List Value} {Q:Value->Shared->Prop} (I:Inv X pins σ H s) (e:H a=some (.dK kvs)) (ry:RelV (kV k) u) (l:valV kvs k=some v) (hm:more=[]\/∃ x,more=[x])
   (h:∀ w' s',Inv X pins σ (upd H a (.dK (dropK kvs k))) s'->RelV v w'->Q w' s'):wpAny (model X.prog X.w) A (call (.builtin "dict.pop") (.ref a :: u :: more)) Q E s:=by
 obtain ⟨z,hd,vs,rel,dd⟩:=dk_of I.hok e
 obtain ⟨w',hw,rw'⟩:=RelO.some_of (v:=v) (o:=valueAt vs k) (by rw [← l];exact rel.val k)
 have hp:(keyPart u).isSome=true:=by
   cases k with
   | inl i=>obtain ⟨t,q⟩:=(show ∃ t,u=Value.int i t from ry);subst q;rfl
   | inr x=>obtain ⟨t,q⟩:=(show ∃ t,u=Value.str x t from ry);subst q;rfl
 have ha:argsOk "dict.pop" ⟨.ref a :: u :: more,[]⟩:=by
   rcases hm with q | ⟨x,q⟩
   · subst q;exact PySem.F.args_dict_pop_2 _ _
   · subst q;exact PySem.F.args_dict_pop_3 _ _ _
 refine call_meetsIn PySem.F.slot_dict_pop dd.typeIs PySem.F.entry_dict_pop ha (meets_dict_pop_there (mixKind X.prog X.w) a (kV_is ry) more hm hp)
   ⟨vs,w',dd,by rw [← rel.length];exact z,hw,λh' dd' hs=>h w' _ ?_ rw'⟩
 have he:∃ q,h'.get? a=some q:=let ⟨q,_,_,hq,_⟩:=dd';⟨q,hq⟩
 exact d_write I (by rw [e];exact True.intro) hs he (dk_new (Nat.le_trans (dropK_le kvs k) z) hd (rel.drop k) dd')
theorem d_popD {r:Value} {Q:Value->Shared->Prop} (I:Inv X pins σ H s) (e:H a=some (.dK kvs)) (ry:RelV (kV k) u) (l:valV kvs k=none) (h:∀ s',Inv X pins σ H s'->Q r s') :
   wpAny (model X.prog X.w) A (call (.builtin "dict.pop") [.ref a,u,r]) Q E s:=by
 obtain ⟨z,hd,vs,rel,dd⟩:=dk_of I.hok e
 have hn:valueAt vs k=none:=RelO.none_of (by rw [← l];exact rel.val k)
 have hp:(keyPart u).isSome=true:=by
   cases k with
   | inl i=>obtain ⟨t,q⟩:=(show ∃ t,u=Value.int i t from ry);subst q;rfl
   | inr x=>obtain ⟨t,q⟩:=(show ∃ t,u=Value.str x t from ry);subst q;rfl
 exact call_meetsIn PySem.F.slot_dict_pop dd.typeIs PySem.F.entry_dict_pop (PySem.F.args_dict_pop_3 _ _ _) (meets_dict_pop_default (mixKind X.prog X.w) a (kV_is ry) hd hp r) ⟨vs,dd,hn,h _ (I.tok _)⟩
end


def NoSl (i:Expr):Prop:=∀ ov iv,subscripted i false ov iv=operate [ov,iv] (getItem ov iv)
def tDGet (td ty:TE):TE:=λσ H Q=>td σ H λx H1=>ty σ H1 λy H2=>∃ a v,x=.ref a/\DGet H2 a y (some v)/\Q v H2
def tDIn (ty td:TE):TE:=λσ H Q=>ty σ H λy H1=>td σ H1 λx H2=>∃ a o,x=.ref a/\DGet H2 a y o/\Q (.bl o.isSome) H2
def tDNotIn (ty td:TE):TE:=λσ H Q=>ty σ H λy H1=>td σ H1 λx H2=>∃ a o,x=.ref a/\DGet H2 a y o/\Q (.bl (!o.isSome)) H2
def sDPut (td ty tv:TE):TS:=λD σ H=>tv σ H λv H1=>td σ H1 λx H2=>ty σ H2 λy H3=>∃ a H4,x=.ref a/\DPut H3 a y v H4/\D.nx σ H4
def sDAug (td ty tv:TE) (rd:V->V->Hp->VK->Prop):TS:=λD σ H=>td σ H λx H1=>ty σ H1 λy H2=>∃ a v,x=.ref a/\DGet H2 a y (some v) /\
 tv σ H2 λy2 H3=>rd v y2 H3 λz H4=>∃ H5,DPut H4 a y z H5/\D.nx σ H5
def sDDel (td ty:TE):TS:=λD σ H=>td σ H λx H1=>ty σ H1 λy H2=>∃ a kvs k,x=.ref a/\H2 a=some (.dK kvs)/\y=kV k/\(valV kvs k).isSome=true/\D.nx σ (upd H2 a (.dK (dropK kvs k)))

section
variable {X:Cx} {o i e value:Expr} {pos pos' tpos:Pos} {td ty tv:TE}
theorem pc_dnotin (hu:X.A.units+1 < cLine) (hi:PE X i ty) (ho:PE X o td):PC X .NotIn i o (tDNotIn ty td):=by
 intro pins s σ H Q I h
 refine thn (hi pins s σ H _ I h) λiv s1 ⟨y,H1,I1,ry,q1⟩=>thn (ho pins s1 σ H1 _ I1 q1) λu s2 ⟨x,H2,I2,rx,a,ov,ex,g,q2⟩=>?_
 subst ex
 obtain rfl:u=Value.ref a:=rx
 exact d_notIn hu I2 g ry λs3 I3=>⟨.bl (!ov.isSome),H2,I3,rfl,q2⟩
theorem ps_dput (hu:X.A.units+1 < cLine) (ho:PE X o td) (hi:PE X i ty) (hv:PE X value tv) (hs:swapsWith value (some (.Subscript o i pos')) pos.line X.env=pure false) :
   PS X (.Assign [.Subscript o i pos'] value pos) (sDPut td ty tv):=by
 intro pins s σ H D I h
 refine wpAny_Assign_Subscript (thn (hv pins s σ H _ I h) λr s1 ⟨v,H1,I1,rv,q1⟩=>thn (ho pins s1 σ H1 _ I1 q1) λu s2 ⟨x,H2,I2,rx,q2⟩=>thn (hi pins s2 σ H2 _ I2 q2) λiv s3 ⟨y,H3,I3,ry,a,H4,ex,g,q3⟩=>?_) hs
 subst ex
 obtain rfl:u=Value.ref a:=rx
 exact d_setItem hu I3 g ry rv λs4 I4=>⟨σ,H4,I4,q3⟩
end


theorem dk_empty {P:Program} {w:World} {H:Hp} (h:Heap) (hb:sysModules < h.objs.size):ObjOk P w H (h.push { cls:=.type "dict",data:=.dict #[] }) h.objs.size (.dK []) :=
 ⟨Nat.zero_le _,beq_eq_false_iff_ne.mpr (Ne.symm (Nat.ne_of_lt hb)),[],.nil,Heap.DictOf.new h⟩
def tDNewK:TE:=λ_ H Q=>∀ p,H p=none->Q (.ref p) (upd H p (.dK []))
def tDNewT:TE:=λ_ H Q=>∀ p,H p=none->Q (.ref p) (upd H p (.dT []))
section
variable {X:Cx} {pos:Pos}
theorem pe_dnewK:PE X (.Dict [] [] pos) tDNewK:=λpins s σ H Q I h =>
 wpAny_Dict_empty ⟨.ref s.heap.objs.size,_,I.laid (a:=s.heap.objs.size) (o:=.dK []) (t':=s.toks) (λ_ _ q=>Heap.get?_push_of_some _ q) (Nat.le_refl _) (dk_empty s.heap I.big),rfl,h _ (I.hok.fresh (Nat.le_refl _))⟩
end

def tPairs:List (TE × TE)->St->Hp->(List (V × V)->Hp->Prop)->Prop
 | [],_,H,Q=>Q [] H
 | (tk,tv) :: r,σ,H,Q=>tk σ H λx H1=>tv σ H1 λy H2=>tPairs r σ H2 λps H3=>Q ((x,y) :: ps) H3
abbrev VV:List (V × V)->List (Value × Value)->Prop:=Paired λp q=>RelV p.1 q.1/\RelV p.2 q.2
def PPs (X:Cx) (pos:Pos) (keys:List (Option Expr)) (values:List Expr) (trs:List (TE × TE)):Prop :=
 ∀ (pins:List (Addr × Obj)) (s:Shared) (σ:St) (H:Hp) (Q:List (V × V)->Hp->Prop),Inv X pins σ H s->tPairs trs σ H Q ->
   wpAny (model X.prog X.w) X.A (evalPairs (pairTrees keys values X.env pos)) (λvs s'=>∃ ps H',Inv X pins σ H' s'/\VV ps vs/\Q ps H') X.xe s
def mergeK (kvs more:List (Key × V)):List (Key × V):=more.foldl (λacc kv=>putK acc kv.1 kv.2) kvs
def tDisp (trs:List (TE × TE)):TE:=λσ H Q=>∀ p,H p=none->tPairs trs σ (upd H p (.dK [])) λps H2=>H2 p=some (.dK [])/\∃ kvs:List (Key × V),ps=kvs.map (λkv=>(kV kv.1,kv.2))/\kvs.length <= 15/\Q (.ref p) (upd H2 p (.dK (mergeK [] kvs)))
structure M1 (X:Cx) (o:Expr) (m:Str) (apos:Pos) (e:Expr) (cpos:Pos):Prop where
 base:attributeBase o m X.env (eval o X.env)=eval o X.env
 few:((backTo cpos (starEach [e] X.env)).all (λx=>!x.1) && (backToKw cpos (keywordEach [] X.env)).all (λx=>x.1.isSome)
   && decide (([e]:List Expr).length+([]:List Keyword).length+(if ([]:List Keyword).isEmpty then 0 else 1) < 30))=true
 line:(apos.endLine == cpos.line)=true
 trees:backTo cpos (starEach [e] X.env)=[(false,eval e X.env)]
structure M2 (X:Cx) (o:Expr) (m:Str) (apos:Pos) (e f:Expr) (cpos:Pos):Prop where
 base:attributeBase o m X.env (eval o X.env)=eval o X.env
 few:((backTo cpos (starEach [e,f] X.env)).all (λx=>!x.1) && (backToKw cpos (keywordEach [] X.env)).all (λx=>x.1.isSome)
   && decide (([e,f]:List Expr).length+([]:List Keyword).length+(if ([]:List Keyword).isEmpty then 0 else 1) < 30))=true
 line:(apos.endLine == cpos.line)=true
 trees:backTo cpos (starEach [e,f] X.env)=[(false,eval e X.env),(false,eval f X.env)]

def IsD (H:Hp) (a:Addr):Prop:=(∃ kvs,Rd H a (.dK kvs))\/∃ kvs,Rd H a (.dT kvs)
theorem isD_at {X:Cx} {pins:List (Addr × Obj)} {σ:St} {H:Hp} {s:Shared} {a:Addr} (I:Inv X pins σ H s) (d:IsD H a) :
   s.TypeIs (.ref a) "dict"/\(∀ b,Value.ref a=.ref b->∃ ob,s.heap.get? b=some ob/\ob.dict=none)/\(a == sysModules)=false:=by
 rcases d with ⟨kvs,e⟩ | ⟨kvs,e⟩
 · obtain ⟨_,hd,vs,_,dd⟩:=dk_rd I.hok e
   refine ⟨dd.typeIs,λb q=>?_,hd⟩
   cases q
   obtain ⟨ob,_,_,h1,h2,_⟩:=dd
   exact ⟨ob,h1,h2.2.1⟩
 · obtain ⟨_,hd,xs,_,dd⟩:=dt_rd I.hok e
   refine ⟨dd.typeIs,λb q=>?_,hd⟩
   cases q
   obtain ⟨ob,_,_,h1,h2,_⟩:=dd
   exact ⟨ob,h1,h2.2.1⟩

section
variable {X:Cx} {pins:List (Addr × Obj)} {σ:St} {H:Hp} {s:Shared} {a:Addr} {y d:V} {u r:Value} {o:Option V} {A:Around} {E:Value->Shared->Prop}
end

def tDGet1 (td ty:TE):TE:=λσ H Q=>td σ H λx H1=>∃ a,x=.ref a/\IsD H1 a/\ty σ H1 λy H2=>∃ o,DGet H2 a y o/\Q (o.getD .non) H2
def tDGet2 (td ty tx:TE):TE:=λσ H Q=>td σ H λx H1=>∃ a,x=.ref a/\IsD H1 a/\ty σ H1 λy H2=>tx σ H2 λz H3=>∃ o,DGet H3 a y o/\Q (o.getD z) H3
def tDPop1 (td ty:TE):TE:=λσ H Q=>td σ H λx H1=>∃ a,x=.ref a/\IsD H1 a/\ty σ H1 λy H2=>∃ kvs k v,H2 a=some (.dK kvs)/\y=kV k/\valV kvs k=some v/\Q v (upd H2 a (.dK (dropK kvs k)))
def tDPop2 (td ty tx:TE):TE:=λσ H Q=>td σ H λx H1=>∃ a,x=.ref a/\IsD H1 a/\ty σ H1 λy H2=>tx σ H2 λz H3=>∃ kvs k,H3 a=some (.dK kvs)/\y=kV k /\
 (∀ v,valV kvs k=some v->Q v (upd H3 a (.dK (dropK kvs k))))/\(valV kvs k=none->Q z H3)
section
variable {X:Cx} {o e f:Expr} {apos cpos:Pos} {td ty tx:TE}
theorem pe_dpop1 (ho:PE X o td) (he:PE X e ty) (m:M1 X o "pop" apos e cpos):PE X (.Call (.Attribute o "pop" apos) [e] [] cpos) (tDPop1 td ty):=by
 intro pins s σ H Q I h
 refine wpAny_Call_method m.base m.few m.line PySem.F.plainAttrs_dict PySem.F.slot_dict_pop PySem.F.type_dict_pop (thn (ho pins s σ H _ I h) λu s1 ⟨x,H1,I1,rx,a,ex,d,q1⟩=>?_)
 subst ex
 obtain rfl:u=Value.ref a:=rx
 obtain ⟨t1,t2,_⟩:=isD_at I1 d
 refine ⟨t1,t2,?_⟩
 rw [m.trees]
 refine Calls.callWith_builtin rfl (Calls.evalArgs_plain (Calls.spliced_cons (thn (he pins s1 σ H1 _ I1 q1) λiv s2 ⟨y,H2,I2,ry,kvs,k,v,ea,ey,l,q2⟩=>Calls.spliced_nil ?_)))
 subst ey
 exact d_pop I2 ea ry l (.inl rfl) λw' s3 I3 rw'=>⟨v,_,I3,rw',q2⟩
end

section
variable {X:Cx} {pins:List (Addr × Obj)} {σ:St} {H:Hp} {s:Shared} {a:Addr} {kvs:List (Key × V)} {A:Around} {E:Value->Shared->Prop}
end


section
variable {X:Cx} {pins:List (Addr × Obj)} {σ:St} {H:Hp} {s:Shared} {a:Addr} {y:V} {u:Value} {A:Around} {E:Value->Shared->Prop}
end
end L2

namespace Att
open PySem PySem.W PySem.Calls PyProof.Rows

theorem ints_of_wellAll {P:Params} {h:Heap}:∀ (ns:List Int) (vs:List Value),WellAll P h vs (ns.map WData.int)->IntsAre vs ns:=by
 intro ns
 induction ns with
 | nil =>
   intro vs w
   rw [List.map_nil] at w
   cases w
   exact .nil
 | cons n ns ih =>
   intro vs w
   rw [List.map_cons] at w
   cases w with
   | cons a b =>
     cases a
     exact .cons _ _ (ih _ b)

theorem script_of {l:OpenLaw} {n:Nat} (hn:l.most=some n) {P:Params} {h:Heap} {args:List WData} {vals:List Value}
   (hpre:l.row.toRowW.claim.pre args=true) (hwl:WellAll P h vals args) :
   ∃ a vs ns,vals=[Value.ref a]/\args=[WData.list (ns.map WData.int)]/\h.get? a=some { cls:=.type "list",data:=.seq vs.toArray }/\IntsAre vs ns/\ns.length <= n:=by
 have hsh:WShape.hasAll [] args [.list .int]=true:=(pre_splitW hpre).1
 have hc:l.pre.holds [] { args:=args }=true:=(pre_splitW hpre).2
 obtain ⟨d,r,rfl,h1,h2⟩:=hasAllW_cons hsh
 obtain rfl:=hasAllW_nil h2
 obtain ⟨xs,rfl,h3⟩:=hasW_list h1
 obtain ⟨ns,rfl⟩:=items_int h3
 have hlen:ns.length <= n:=by
   unfold OpenLaw.pre at hc
   have h4:(WTm.not (.lt (.lit (.int (n:Int))) (.len (.arg 0)))).holds [] { args:=[.list (ns.map .int)] }=true:=by
     have h4:=(holds_andW hc).1
     rw [hn] at h4
     exact h4
   have h5:=condW_of h4 (w_not (w_lt w_lit (w_len_list (w_arg rfl))))
   rw [List.length_map] at h5
   refine Nat.le_of_not_lt λq=>?_
   have q':(n:Int) < ((ns.length:Nat):Int):=by omega
   first
     | (rw [decide_eq_true q'] at h5;exact absurd h5 (by decide))
     | (simp at h5;omega)
 cases hwl with
 | cons w1 w2 =>
   cases w2
   cases w1 with
   | list ho hall=>exact ⟨_,_,ns,rfl,rfl,ho,ints_of_wellAll ns _ hall,hlen⟩

theorem post_true (l:OpenLaw) (args:List WData):l.row.toRowW.claim.post args (.bool true) args=true :=
 postW_of (r:=l.row.toRowW) (X:=(true == true))
   (show WShape.has [] (.bool true) .bool=true by first | rfl | decide | simp [WShape.has,WShape.arms,WShape.armsAll])
   (show (WTm.eq .res (.lit (.bool true))).value [] { args:=args,res:=some (.bool true),after:=args }=some (.bool (true == true)) from w_eq_bool (w_res rfl) w_lit) rfl

theorem attach_call {l:OpenLaw} {n:Nat} {q:Program} {loose:List Str} {XP:(Str->Option Value)->Heap->Prop} {YP:World->Heap->Prop} {d:DefRec}
   (hn:l.most=some n) (hdf:d.params.defaults=[])
   (call:∀ (w:World) (s₀ s₁:Shared) (mg mb:Str->Option Value) (fa:Addr) (o:Obj) (pm cd doc:Value) (a:Addr) (vs:List Value) (ns:List Int),
     Ground q loose [] XP w s₀ mg mb s₁.heap->YP w s₁.heap ->
     s₁.heap.get? fa=some o->o.data=.func (docDef d.name d.params d.body d.scope pm cd doc)->s₁.heap.CodeRec cd d.name->mg d.name=some (.ref fa) ->
     s₁.heap.get? a=some { cls:=.type "list",data:=.seq vs.toArray }->IntsAre vs ns->ns.length <= n->s₁.gens=#[] ->
     codeAny (model l.prog w) callerA (.call (.ref fa) ⟨[.ref a],[]⟩) (λr s'=>r=.ok (.ret (.bool true))/\OldK s₁.heap s'.heap/\s'.os=s₁.os/\AllBare s'.gens) s₁) :
   WalkO q loose XP YP l.row.toRowW d [] (λf vs=>PySem.call f vs):=by
 intro w s₀ s₁ mg mb G Y fa o pm cd doc dV kV ho hd hcd hD hmg hg args vals as hpre hlay hrd hwl hlo
 obtain rfl:dV=.none:=Dflts.none hD hdf
 obtain rfl:kV=.none:=Dflts.noKw hD
 obtain ⟨a,vs,ns,rfl,rfl,hobj,hints,hlen⟩:=script_of hn hpre hwl
 refine enter_call (codeAny_mono (call w s₀ s₁ mg mb fa o pm cd doc a vs ns G Y ho (fd_plain hd) hcd hmg hobj hints hlen hg) λr s' hq=>?_)
 obtain ⟨rfl,h2,h3,h4⟩:=hq
 exact ⟨.inl ⟨.bool true,.bool true,[],rfl,λ_=>rfl,.bool true,post_true l _,λ_=>⟨List.Pairwise.nil,λ_ hm=>(nomatch hm)⟩⟩,h2,h3,h4⟩

section
variable {prog:Program} {w:World} {A:Around} {E:Value->Shared->Prop} {s:Shared} {K:Frag}

def noObjs (h:Heap):Heap:={ h with objs:=#[] }
def ledger (h:Heap) (L d:Addr):List (Addr × Obj):=(List.range h.objs.size).filterMap λa=>if a=L\/a=d then none else (h.get? a).map λo=>(a,o)
end
end Att

namespace L2
open PySem PySem.Spec PyProof.Rows

theorem vals_ints:∀ {vs:List Value} {ns:List Int},IntsAre vs ns->Vals (ns.map V.int) vs
 | _,_,.nil=>.nil
 | _,_,.cons n t h=>.cons ⟨t,rfl⟩ (vals_ints h)

def Only (H:Hp):Prop:=∀ b,H b=none\/∃ o xs,H b=some (.frz o (.lst xs))

theorem law_call {P:Program} {w:World} {K:PySem.W.Frag} {mg mb:Str->Option Value} {CX:CXT} {k:Nat} {fa a:Addr} {fd:FuncData} {x:Str} {sp:Sp} {s₁:Shared} {vs:List Value} {ns:List Int}
   (KX:K.In s₁.heap) (hns:s₁.heap.Ns mainGlobals mg) (hb:s₁.heap.Ns builtinsNs mb) (hbb:∀ x:Str,x≠"__name__"->mb x=bootBuiltins x) (hlim:s₁.heap.NoLimit) (hg:s₁.gens=#[])
   (ha:s₁.heap.get? a=some { cls:=.type "list",data:=.seq vs.toArray }) (hi:IntsAre vs ns) (hl:ns.length <= sizeLine) (hr:Room k callerA)
   (F:∀ base:Heap,K.In base->base.Ns mainGlobals mg->FnOk P w K mg base CX k fa fd [x] sp) (hbind:∀ (s:Shared) (u:Value),BindsTo s fd ⟨[u],[]⟩ [(x,u)])
   (hsp:∀ H:Hp,Only H->SqL K H a (ns.map V.int)->sp [.ref a] H (λv _=>v=.bl true) λ_ _ _=>False)
   (hCX:∀ H e s',CX [] H s₁ (λ_ _ _=>False) e s'->False) :
   codeAny (model P w) callerA (.call (.ref fa) ⟨[.ref a],[]⟩) (λr s'=>r=.ok (.ret (.bool true))/\OldK s₁.heap s'.heap/\s'.os=s₁.os/\AllBare s'.gens) s₁:=by
 have rv:=vals_ints hi
 have lenV:=hi.length
 have core:∀ H:Hp,Only H->SqL K H a (ns.map V.int)->HOk P w H s₁.heap->(∀ b,H b≠none->b=a)->(H a≠none->K.lookup a=none) ->
     codeAny (model P w) callerA (.call (.ref fa) ⟨[.ref a],[]⟩) (λr s'=>r=.ok (.ret (.bool true))/\OldK s₁.heap s'.heap/\s'.os=s₁.os/\AllBare s'.gens) s₁:=by
   intro H hO hS hok hA hK
   have base_of:∀ {b:Addr} {o:Obj},s₁.heap.get? b=some o->H b=none->(hidT s₁.heap H).get? b=some o:=λe n=>hidT_get e n
   have noA:∀ {b:Addr} {o:Obj} {es:Array DictEntry} {ep:Nat},s₁.heap.get? b=some o->o.data=.dict es ep->H b=none:=λ{b o es ep} e d=>by
     cases q:H b with
     | none=>rfl
     | some u =>
       have e':b=a:=hA b (by rw [q];simp)
       subst e'
       rw [ha] at e;cases e
       have d':Data.seq vs.toArray _=Data.dict es ep:=d
       cases d'
   have nsK:∀ {b:Addr} {m:Str->Option Value},s₁.heap.Ns b m->(hidT s₁.heap H).Ns b m:=λ{b m} ⟨o,es,ep,e,d,r⟩=>⟨o,es,ep,base_of e (noA e d),d,r⟩
   have hKb:K.In (hidT s₁.heap H):=λb o e=>base_of (KX b o e) (by
     cases q:H b with
     | none=>rfl
     | some u =>
       have e':b=a:=hA b (by rw [q];simp)
       subst e'
       rw [hK (by rw [q];simp)] at e;cases e)
   have hM:Mod K mg (hidT s₁.heap H):=⟨hKb,nsK hns,⟨mb,nsK hb,hbb⟩,let ⟨mc,h1,h2⟩:=hlim;⟨mc,nsK h1,h2⟩⟩
   have e0:Env0 P w K mg (hidT s₁.heap H) callerA [] s₁ H:=⟨rfl,hM,λb o e=>of_hidT e,Nat.le_of_eq (hidT_size _ _),trivial,λb hb=>absurd (show b∈([]:List Addr) from hb) (by simp),hok,.of_eq hg⟩
   refine codeAny_mono ((F _ hKb (nsK hns)).run callerA [] s₁ H ⟨[.ref a],[]⟩ [.ref a] [.ref a] _ _ hr e0 (hbind s₁ (.ref a)) (.cons rfl .nil) (hsp H hO hS)) λr s' h=>?_
   cases r with
   | error e=>exact (hCX H e s' h).elim
   | ok fl =>
     cases fl with
     | next=>exact False.elim h
     | brk=>exact False.elim h
     | cont=>exact False.elim h
     | ret u =>
       obtain ⟨v,H',os,bare,un,hok',r',q⟩:=h
       have q':v=.bl true:=q
       subst q'
       obtain rfl:u=Value.bool true:=r'
       refine ⟨rfl,OldK.of_keep λb o e=>?_,os,bare⟩
       cases q:H b with
       | none=>exact un.keep b o e q (by intro z;exact absurd (show b∈([]:List Addr) from z) (by simp)) (by simp)
       | some u =>
         rcases hO b with z | ⟨ob,xs,z⟩
         · rw [q] at z;cases z
         · have z2:=un.frzs b ob _ z
           obtain ⟨e1,_⟩:=hok b _ z
           obtain ⟨e2,_⟩:=hok' b _ z2
           rw [e] at e1;cases e1
           exact e2
 cases hk:K.lookup a with
 | some o =>
   have e:=KX a o hk
   rw [ha] at e
   cases e
   refine core (λ_=>none) (λ_=>.inl rfl) (.inr ⟨_,vs.toArray,_,hk,rfl,rfl,rfl,by rw [List.size_toArray,lenV];exact hl,by simpa using rv⟩) (λb u z=>by have z':(none:Option HO)=some u:=z;cases z') (λb z=>absurd rfl z) λz=>absurd rfl z
 | none =>
   refine core (λb=>if b=a then some (.frz { cls:=.type "list",data:=.seq vs.toArray } (.lst (ns.map V.int))) else none) (λb=>?_) (.inl (.inr ⟨{ cls:=.type "list",data:=.seq vs.toArray },if_pos rfl⟩)) (λb u z=>?_) (λb z=>?_) λ_=>hk
   · by_cases hb:b=a
     · exact .inr ⟨_,_,if_pos hb⟩
     · exact .inl (if_neg hb)
   · by_cases hb:b=a
     · have z':=(if_pos hb).symm.trans z
       cases z'
       subst hb
       exact ⟨ha,by rw [List.length_map];exact hl,vs,_,rv,ha⟩
     · have z':=(if_neg hb).symm.trans z
       cases z'
   · by_cases hb:b=a
     · exact hb
     · exact absurd (if_neg hb) z
end L2

namespace L2
open PySem PySem.Spec PyProof.Rows

abbrev KOf {K:PySem.W.Frag} {h:Heap} (_:K.In h):PySem.W.Frag:=K

theorem walk_of {l:PySem.W.OpenLaw} {n k:Nat} {q:Program} {loose:List Str} {XP:(Str->Option Value)->Heap->Prop} {YP:World->Heap->Prop} {d:DefRec} {K:Params->PySem.W.Frag} {CX:World->CXT} {sp:World->Sp} {x:Str}
   (hn:l.most=some n) (hn2:n <= sizeLine) (hdf:d.params.defaults=[]) (hr:Room k callerA)
   (hY:∀ (w:World) (h:Heap),YP w h->(K w.params).In h)
   (F:∀ (w:World) (mg:Str->Option Value) (fa:Addr) (h:Heap),(K w.params).In h->h.Ns mainGlobals mg->mg d.name=some (.ref fa) ->
     ∃ fd:FuncData,(∀ (s:Shared) (u:Value),BindsTo s fd ⟨[u],[]⟩ [(x,u)]) /\
       ∀ base:Heap,(K w.params).In base->base.Ns mainGlobals mg->FnOk l.prog w (K w.params) mg base (CX w) k fa fd [x] (sp w))
   (hsp:∀ (w:World) (H:Hp) (a:Addr) (ns:List Int),ns.length <= n->Only H->SqL (K w.params) H a (ns.map V.int)->sp w [.ref a] H (λv _=>v=.bl true) λ_ _ _=>False)
   (hCX:∀ (w:World) (H:Hp) (s:Shared) (e:Value) (s':Shared),CX w [] H s (λ_ _ _=>False) e s'->False) :
   PySem.W.WalkO q loose XP YP l.row.toRowW d [] (λf vs=>PySem.call f vs):=by
 refine Att.attach_call hn hdf λw s₀ s₁ mg mb fa o pm cd doc a vs ns G Y ho hd hcd hmg hobj hints hlen hg=>?_
 have KX:=hY w _ Y
 obtain ⟨fd,hb,hF⟩:=F w mg fa _ KX G.T.g hmg
 exact law_call KX G.T.g G.T.b G.T.builtins G.T.nolimit hg hobj hints (Nat.le_trans hlen hn2) hr hF hb (λH hO hS=>hsp w H a ns hlen hO hS) λH e s'=>hCX w H s₁ e s'
end L2

namespace L2
open PySem PySem.Spec PyProof.Rows

def inClass (s:Stmt) (j:Nat):Stmt:=match s with
 | .ClassDef _ _ _ body _ _ _ _ _ _ _=>body.getD j (.Pass ⟨0,0,0,0⟩)
 | _=>.Pass ⟨0,0,0,0⟩
def defArgs (s:Stmt):Arguments:=match s with
 | .FunctionDef _ a _ _ _ _ _ _ _ _=>a
 | _=>{ posonlyargs:=[],args:=[],vararg:=none,kwonlyargs:=[],kw_defaults:=[],kwarg:=none,defaults:=[] }
def defBody (s:Stmt):List Stmt:=match s with
 | .FunctionDef _ _ b _ _ _ _ _ _ _=>b
 | _=>[]
def defScope (s:Stmt):Scope:=match s with
 | .FunctionDef _ _ _ _ _ _ sc _ _ _=>sc
 | _=>{ kind:=.function,names:=[],isGenerator:=false,isCoroutine:=false }

abbrev CX0:CXT:=λ_ _ _ _ _ _=>False
abbrev E0:XK:=λ_ _ _=>False
theorem pass0 {X:Cx}:Passes CX0 X E0:=λ_ _ _ _ _ _ _ h=>h.elim

structure Fun (K:PySem.W.Frag) (x qual:Str) (st:Stmt) (f:Addr) (fd:FuncData):Prop where
 ex:∃ (oc:Value) (od:Option Addr) (kV doc pm:Value) (an:Option Addr) (cdv ct:Value) (osl:Array (Option Value)),
   fd=PySem.W.fnOf x qual (defArgs st) (defBody st) (defScope st) .none kV doc pm an cdv ct/\K.lookup f=some ⟨oc,od,.func fd,osl⟩/\PySem.W.codeIn K cdv qual=true
 kp:PySem.W.keepIn K (.ref f)=true
section
variable {P:Program} {w:World} {K:PySem.W.Frag} {mg:Str->Option Value} {base:Heap}
theorem Fun.ok {x qual:Str} {st:Stmt} {f:Addr} {fd:FuncData} {N ps:List Str} {k:Nat} {sp:Sp} (F:Fun K x qual st f fd) (S:FnScope N ps (defScope st)) (len:∀ vs H Q E,sp vs H Q E->vs.length=ps.length)
   (hbody:∀ (cdv:Value) (A:Around) (outer:List Env) (s:Shared) (H:Hp) (vs:List V) (Q:VK) (E:XK),Room k (A.deeper (envOfC qual (defScope st) s.heap.objs.size f cdv))->sp vs H Q E ->
     ∃ t,PSs (cxOf CX0 P w K mg base N qual (defScope st) f cdv A outer s H E).nox (defBody st) t/\t { nx:=λ_ H'=>Q .non H',rt:=Q } (start N vs) H):FnOk P w K mg base CX0 (k+1) f fd ps sp:=by
 obtain ⟨oc,od,kV,doc,pm,an,cdv,ct,osl,rfl,lk,hcd⟩:=F.ex
 refine fn_of lk hcd S len λA outer s H vs Q E hr hsp=>?_
 obtain ⟨t,h,q⟩:=hbody cdv A outer s H vs Q E hr hsp
 exact ⟨t,h.nox,q⟩
theorem Fun.binds {x qual:Str} {st:Stmt} {f:Addr} {fd:FuncData} {ps:List Str} (F:Fun K x qual st f fd)
   (h:∀ (kV doc pm:Value) (an:Option Addr) (cdv ct:Value) (us:List Value),us.length=ps.length->bindArgs (PySem.W.fnOf x qual (defArgs st) (defBody st) (defScope st) .none kV doc pm an cdv ct) ⟨us,[]⟩=pure (ps.zip us)):Binds K fd ps []:=by
 obtain ⟨oc,od,kV,doc,pm,an,cdv,ct,osl,rfl,lk,hcd⟩:=F.ex
 exact .all (h kV doc pm an cdv ct)
theorem fun_mk {x qual:Str} {st:Stmt} {f:Addr} {oc:Value} {od an:Option Addr} {osl:Array (Option Value)} {kV doc pm cdv ct:Value} (l:K.lookup f=some ⟨oc,od,.func (PySem.W.fnOf x qual (defArgs st) (defBody st) (defScope st) .none kV doc pm an cdv ct),osl⟩)
   (c:PySem.W.codeIn K cdv qual=true) (k:PySem.W.keepIn K (.ref f)=true):Fun K x qual st f (PySem.W.fnOf x qual (defArgs st) (defBody st) (defScope st) .none kV doc pm an cdv ct):=⟨⟨oc,od,kV,doc,pm,an,cdv,ct,osl,rfl,l,c⟩,k⟩
end
theorem hu_of {A:Around} {k:Nat} (hr:Room k A):A.units+1 < cLine:=Nat.lt_of_le_of_lt (Nat.add_le_add_left (by decide:1 <= 64) _) hr.units
section
variable {X:Cx}
theorem pv (i:Nat) {x:Str} {pos:Pos} (hN:X.N[i]?=some x:=by rfl) (hv:Vis X.env.scope x:=by first | exact Or.inl rfl | exact Or.inr (Or.inl rfl) | exact Or.inr (Or.inr rfl)) (hd:(x == ("__debug__":Str))=false:=by decide)
   (hcd:(x == ("__classdict__":Str))=false:=by decide):PE X (.Name x pos) (tVar i):=pe_var hN hv hd hcd
end

theorem iteF {A B:Prop} (h:B):if false=true then A else B:=by
 rw [if_neg Bool.false_ne_true]
 exact h
theorem iteT {A B:Prop} (h:A):if true=true then A else B:=by
 rw [if_pos rfl]
 exact h
theorem ite2 {c A B:Prop} [Decidable c] (h1:c->A) (h2:¬ c->B):if c then A else B:=by
 by_cases h:c
 · rw [if_pos h]
   exact h1 h
 · rw [if_neg h]
   exact h2 h
theorem iteNS {c A B:Prop} [Decidable c] (hc:c) (h:B):if (!decide c)=true then A else B:=by
 rw [decide_eq_true hc]
 exact iteF h

def Same (H H':Hp):Prop:=∀ b o,H b=some o->H' b=some o
theorem Same.refl (H:Hp):Same H H:=λ_ _ h=>h
theorem Same.trans {H H1 H2:Hp} (a:Same H H1) (b:Same H1 H2):Same H H2:=λc o h=>b c o (a c o h)
theorem Same.free {H H':Hp} (e:Same H H') {l:Addr} (h:H' l=Option.none):H l=Option.none:=by
 cases q:H l with
 | none=>rfl
 | some o =>
   rw [e l o q] at h
   cases h
theorem Same.seq {K:PySem.W.Frag} {H H':Hp} {a:Addr} {xs:List V} (e:Same H H') (h:SqL K H a xs):SqL K H' a xs:=by
 rcases h with (h | ⟨o,h⟩) | h
 · exact .inl (.inl (e _ _ h))
 · exact .inl (.inr ⟨o,e _ _ h⟩)
 · exact .inr h

end L2

namespace L2
open PySem PySem.Spec PyProof.Rows
section
variable {X:Cx}
end
section
variable {κ:Type} [DecidableEq κ]
end
end L2


namespace L2
open PySem PySem.Spec PyProof.Rows
theorem bt_int:bootBuiltins "int"=some (.type "int"):=by decide +kernel
theorem bt_bool:bootBuiltins "bool"=some (.type "bool"):=by decide +kernel
theorem bt_list:bootBuiltins "list"=some (.type "list"):=by decide +kernel
theorem bt_tuple:bootBuiltins "tuple"=some (.type "tuple"):=by decide +kernel
theorem bt_str:bootBuiltins "str"=some (.type "str"):=by decide +kernel
theorem bt_range:bootBuiltins "range"=some (.type "range"):=by decide +kernel
theorem bt_reversed:bootBuiltins "reversed"=some (.type "reversed"):=by decide +kernel
theorem bt_isinstance:bootBuiltins "isinstance"=some (.builtin "isinstance"):=by decide +kernel
theorem bt_len:bootBuiltins "len"=some (.builtin "len"):=by decide +kernel
section
variable {X:Cx}
theorem call_isinst:CallR X (.builtin "isinstance") (λxs H Q=>∃ x c t b,xs=[x,V.ty c]/\TyOf X.K H x t/\PySem.W.kitOne X.K t (.type c)=some b/\Q (.bl b) H):=by
 intro pins s σ H xs us Q I r h
 obtain ⟨x,c,t,b,rfl,ty,e,q⟩:=h
 obtain ⟨u,w',rfl,ru,rw⟩:=vals2 r
 cases rw
 exact isinst_ok I ru ty e λtk=>⟨.bl b,H,I.tok _,rfl,q⟩
def CDivB (_i j:Int):Prop:=0 < j/\j < 2 ^ 40
theorem op_fdivB:OpR X (binaryOp .FloorDiv) (rI CDivB λi j=>.int (i / j)):=opI λi j _ _ _ _ _ hc q=>by
 have h1:(0:Int) < j:=hc.1
 have h2:j < 2 ^ 40:=hc.2
 refine floordiv_int (by omega) (by rw [Int.fdiv_eq_ediv_of_nonneg i (by omega)];exact q) (.inl (PyProof.noPylong_of_log2 ?_))
 have h3:j.natAbs≠0:=by omega
 have h4:j.natAbs.log2 < 40:=(Nat.log2_lt h3).mpr (by omega)
 omega
end
theorem iteC {c A B:Prop} [Decidable c] (hc:c) (h:A):if c then A else B:=by
 rw [if_pos hc];exact h
theorem iteN {c A B:Prop} [Decidable c] (hc:¬ c) (h:B):if c then A else B:=by
 rw [if_neg hc];exact h
theorem cmul_nn {i j:Int} (h0:0 <= i) (h1:i < 4294967296):CMul i j:=.inl ⟨Int.lt_of_lt_of_le (by decide) h0,Int.lt_trans h1 (by decide)⟩
theorem at_in {xs:List V} {i:Int} (h0:0 <= i) (h1:i < xs.length):∃ v,atI xs i=some v/\v∈xs:=by
 obtain ⟨n,rfl⟩:=Int.eq_ofNat_of_zero_le h0
 have hn:n < xs.length:=by omega
 exact ⟨xs[n],atI_nat (List.getElem?_eq_getElem hn),List.getElem_mem hn⟩
theorem same_new {H:Hp} {p:Addr} {o:HO} (h:H p=none):Same H (upd H p o):=λb u e=>by
 rw [upd_ne (ne_of_none e h)];exact e
end L2
namespace L2
open PySem PySem.Spec PyProof.Rows
section
variable {X:Cx}
def rCatS (K:PySem.W.Frag):R2:=λx y H Q=>∃ l b xs zs,x=.ref l/\y=.ref b/\SqL K H l xs/\SqL K H b zs/\xs.length+zs.length <= sizeLine/\∀ p,H p=none->Q (.ref p) (upd H p (.lst (xs++zs)))
end
end L2

set_option Elab.async false
set_option maxRecDepth 100000
set_option maxHeartbeats 4000000
namespace MX
open PySem PySem.W
mutual
def kd:PyData->Bool
 | .int _=>true
 | .str x=>PyData.strOk x
 | .tuple xs=>kds xs
 | .none=>false
 | .bool _=>false
 | .list _=>false
 | .dict _=>false
def kds:List PyData->Bool
 | []=>true
 | x :: xs=>kd x && kds xs
end
mutual
def hashD (w:World):PyData->Int
 | .int i=>hashInt i
 | .str x=>hashStr w x
 | .tuple xs=>reduceHash (Builtin.Tuple.tupleHashOf (hashDs w xs))
 | .none=>0
 | .bool _=>0
 | .list _=>0
 | .dict _=>0
def hashDs (w:World):List PyData->List Int
 | []=>[]
 | x :: xs=>hashD w x :: hashDs w xs
end
mutual
theorem kd_lay:∀ d:PyData,kd d=true->d.canLay0=true
 | .int _,_=>rfl
 | .str _,h=>h
 | .tuple xs,h=>kds_lay xs h
 | .none,h=>by cases h
 | .bool _,h=>by cases h
 | .list _,h=>by cases h
 | .dict _,h=>by cases h
theorem kds_lay:∀ xs:List PyData,kds xs=true->PyData.canLayAll0 xs=true
 | [],_=>rfl
 | x :: xs,h=>by
   have h':(kd x && kds xs)=true:=h
   rw [Bool.and_eq_true] at h'
   show (x.canLay0 && PyData.canLayAll0 xs)=true
   rw [kd_lay x h'.1,kds_lay xs h'.2];rfl
end
theorem iffF {p q:Prop} (h1:¬ p) (h2:¬ q):p ↔ q:=⟨λz=>(h1 z).elim,λz=>(h2 z).elim⟩
mutual
theorem eqv_iff:∀ d e:PyData,kd d=true->kd e=true->(PyData.eqv d e=true ↔ d=e)
 | .int a,.int b,_,_=>by
   show (a == b)=true ↔ _
   rw [beq_iff_eq];exact ⟨λz=>by rw [z],λz=>by injection z⟩
 | .str a,.str b,_,_=>by
   show (a == b)=true ↔ _
   rw [beq_iff_eq];exact ⟨λz=>by rw [z],λz=>by injection z⟩
 | .tuple xs,.tuple ys,h1,h2=>by
   have q:=eqvs_iff xs ys h1 h2
   show PyData.eqvAll xs ys=true ↔ _
   rw [q];exact ⟨λz=>by rw [z],λz=>by injection z⟩
 | .int _,.str _,_,_=>iffF (λz=>by cases z) (λz=>by cases z)
 | .int _,.tuple _,_,_=>iffF (λz=>by cases z) (λz=>by cases z)
 | .str _,.int _,_,_=>iffF (λz=>by cases z) (λz=>by cases z)
 | .str _,.tuple _,_,_=>iffF (λz=>by cases z) (λz=>by cases z)
 | .tuple _,.int _,_,_=>iffF (λz=>by cases z) (λz=>by cases z)
 | .tuple _,.str _,_,_=>iffF (λz=>by cases z) (λz=>by cases z)
theorem eqvs_iff:∀ xs ys:List PyData,kds xs=true->kds ys=true->(PyData.eqvAll xs ys=true ↔ xs=ys)
 | [],[],_,_=>⟨λ_=>rfl,λ_=>rfl⟩
 | [],_ :: _,_,_=>iffF (λz=>by cases z) (λz=>by cases z)
 | _ :: _,[],_,_=>iffF (λz=>by cases z) (λz=>by cases z)
 | x :: xs,y :: ys,h1,h2=>by
   have h1':(kd x && kds xs)=true:=h1
   have h2':(kd y && kds ys)=true:=h2
   rw [Bool.and_eq_true] at h1' h2'
   show (PyData.eqv x y && PyData.eqvAll xs ys)=true ↔ _
   rw [Bool.and_eq_true,eqv_iff x y h1'.1 h2'.1,eqvs_iff xs ys h1'.2 h2'.2]
   exact ⟨λz=>by rw [z.1,z.2],λz=>by injection z with a b;exact ⟨a,b⟩⟩
end
section
variable {prog:Program} {w:World} {E:Value->Shared->Prop}
mutual
theorem hash_go:∀ (k:PyData) (v:Value) (as:List Addr) (A:Around) (s:Shared) (Q:Int->Shared->Prop),kd k=true->Reads s.heap v k as->A.units+k.depth < cLine ->
   (∀ tk,Q (hashD w k) { s with toks:=tk })->wpAny (model prog w) A (pyHash v) Q E s
 | .int i,_,_,A,s,Q,_,x,_,h=>by cases x;exact wpAny_pyHash_int (h _)
 | .str y,_,_,A,s,Q,_,x,_,h=>by cases x;exact wpAny_pyHash_str (h _)
 | .tuple xs,_,_,A,s,Q,hk,x,hu,h=>by
   cases x with
   | @tuple a o vs n _ _ hg hc hdt hw =>
     refine pyHash_slot (T:="tuple") ⟨_,hg,hc⟩ F.slot_tuple_hash F.entry_tuple_hash (F.args_tuple_hash_1 _) (beq_builtin_none _) (.inr (Nat.lt_of_le_of_lt (Nat.le_add_right _ _) hu)) ?_
     show wpAny _ _ (Builtin.Tuple.tupleItemsOf (.ref a) >>= _) _ _ s
     refine wpAny_bind (wpAny_tupleItemsOf hg hdt (wpAny_bind ?_))
     rw [← Array.forIn_toList]
     refine hashs_go xs _ _ A.in1 s #[] _ hk hw (by simp only [PyData.depth,Around.in1_units] at hu ⊢;omega) λtk b hb=>?_
     show wpAny _ _ (retInt (Builtin.Tuple.tupleHashOf b.toList)) _ _ _
     rw [hb]
     exact wpAny_bind (wpAny_mkInt (wpAny_pure ⟨_,_,rfl,h _⟩))
 | .none,_,_,_,_,_,h,_,_,_=>by cases h
 | .bool _,_,_,_,_,_,h,_,_,_=>by cases h
 | .list _,_,_,_,_,_,h,_,_,_=>by cases h
 | .dict _,_,_,_,_,_,h,_,_,_=>by cases h
theorem hashs_go:∀ (xs:List PyData) (vs:List Value) (as:List Addr) (A:Around) (s:Shared) (b:Array Int) (Q:Array Int->Shared->Prop),kds xs=true->ReadsAll s.heap vs xs as->A.units+PyData.depthAll xs < cLine ->
   (∀ tk b',b'.toList=b.toList++hashDs w xs->Q b' { s with toks:=tk }) ->
   wpAny (model prog w) A (forIn vs b λx r=>do let h ← pyHash x;pure PUnit.unit;pure (ForInStep.yield (r.push h))) Q E s
 | [],_,_,A,s,b,Q,_,x,_,h=>by cases x;exact wpAny_pure (h s.toks b (by simp [hashDs]))
 | k :: xs,_,_,A,s,b,Q,hk,x,hu,h=>by
   cases x with
   | cons x1 x2 =>
     have hk':(kd k && kds xs)=true:=hk
     rw [Bool.and_eq_true] at hk'
     simp only [PyData.depthAll] at hu
     rw [List.forIn_cons]
     refine wpAny_bind (wpAny_bind (hash_go k _ _ A s _ hk'.1 x1 (by omega) λtk=>wpAny_bind (wpAny_pure (wpAny_pure ?_))))
     exact hashs_go xs _ _ A _ _ Q hk'.2 x2 (by omega) λtk' b' hb=>h tk' b' (by simp [hb,hashDs])
end
theorem quiet_go:∀ (n:Nat) (k:PyData) (v:Value) (as:List Addr) (A:Around) (s:Shared) (Q:Bool->Shared->Prop),kd k=true->Reads s.heap v k as->k.depth <= n ->
   Q true s->wpAny (model prog w) A (eqIsQuiet n v) Q E s:=by
 intro n
 induction n with
 | zero =>
   intro k v as A s Q hk x hu h
   cases x with
   | int i t=>rw [eqIsQuiet_byValue 0 rfl];exact wpAny_pure h
   | str i t=>rw [eqIsQuiet_byValue 0 rfl];exact wpAny_pure h
   | tuple=>simp only [PyData.depth] at hu;omega
   | none=>cases hk
   | bool=>cases hk
   | list=>cases hk
   | dict=>cases hk
 | succ n ih =>
   intro k v as A s Q hk x hu h
   cases x with
   | int i t=>rw [eqIsQuiet_byValue _ rfl];exact wpAny_pure h
   | str i t=>rw [eqIsQuiet_byValue _ rfl];exact wpAny_pure h
   | none=>cases hk
   | bool=>cases hk
   | list=>cases hk
   | dict=>cases hk
   | @tuple a o vs m xs _ hg hc hdt hw =>
     have hT:s.TypeIs (.ref a) "tuple":=⟨_,hg,hc⟩
     unfold eqIsQuiet
     refine wpAny_bind (wpAny_specialOf hT F.slot_tuple_eq.lookup ?_)
     show wpAny _ _ (isInstance (.ref a) (.type "tuple") >>= _) _ _ s
     refine wpAny_bind (wpAny_isInstance hT isSubtype_tuple_tuple ?_)
     simp only [Bool.not_true,Bool.false_eq_true,if_false]
     refine wpAny_bind (wpAny_seqItems hg hdt (wpAny_bind ?_))
     show wpAny _ _ (forIn vs _ _) _ _ s
     rw [← Array.forIn_toList]
     refine wpAny_forIn_list _ (λrest r s'=>r.1=none/\s'=s/\∃ ys bs,ReadsAll s.heap rest ys bs/\kds ys=true/\PyData.depthAll ys <= n) _ ?_ ?_ _ _
       ⟨rfl,rfl,xs,_,hw,hk,by simp only [PyData.depth] at hu;omega⟩
     · rintro y rest r s' ⟨hr,rfl,ys,bs,rd,hks,hdp⟩
       cases rd with
       | @cons _ _ d ds _ _ r1 r2 =>
         have hks':(kd d && kds ds)=true:=hks
         rw [Bool.and_eq_true] at hks'
         simp only [PyData.depthAll] at hdp
         refine wpAny_bind (ih d _ _ A _ _ hks'.1 r1 (by omega) ?_)
         simp only [Bool.not_true,Bool.false_eq_true,if_false]
         exact wpAny_pure ⟨rfl,rfl,ds,_,r2,hks'.2,by omega⟩
     · rintro ⟨r1,r2⟩ s' ⟨hr,rfl,_⟩
       simp only at hr
       subst hr
       exact wpAny_pure h
def Ent (w:World) (h:Heap) (k:PyData) (e:DictEntry):Prop:=kd k=true/\k.depth <= 8/\(∃ as,Reads h e.key k as)/\e.hash=hashD w k
def Ask (h:Heap) (k:PyData) (v:Value):Prop:=kd k=true/\k.depth <= 8/\(∃ as,Reads h v k as)/\((∃ x t,v=.str x t)\/∃ a,v=.ref a)
abbrev Ents (w:World) (h:Heap) (ks:List PyData) (es:List DictEntry):Prop:=Paired (Ent w h) ks es
theorem f2_get {α β:Type} {R:α->β->Prop}:∀ {xs:List α} {ys:List β},Paired R xs ys->∀ (j:Nat) (y:β),ys[j]?=some y->∃ x,xs[j]?=some x/\R x y
 | _,_,.nil,j,y,h=>by simp at h
 | _,_,.cons r t,0,y,h=>by simp at h;subst h;exact ⟨_,rfl,r⟩
 | _,_,.cons r t,j+1,y,h=>by
   obtain ⟨x,e,q⟩:=f2_get t j y (by simpa using h)
   exact ⟨x,by simpa using e,q⟩
theorem f2_get' {α β:Type} {R:α->β->Prop}:∀ {xs:List α} {ys:List β},Paired R xs ys->∀ (j:Nat) (x:α),xs[j]?=some x->∃ y,ys[j]?=some y/\R x y
 | _,_,.nil,j,y,h=>by simp at h
 | _,_,.cons r t,0,y,h=>by simp at h;subst h;exact ⟨_,rfl,r⟩
 | _,_,.cons r t,j+1,y,h=>by
   obtain ⟨x,e,q⟩:=f2_get' t j y (by simpa using h)
   exact ⟨x,by simpa using e,q⟩
theorem mem_places {n:Nat} {f:Nat->Option Int} {h:Int} {j:Nat} (hj:j < n) (e:f j=some h):j∈placesWithHash n f h:=by
 unfold placesWithHash
 exact List.mem_filter.mpr ⟨List.mem_range.mpr hj,by rw [e];simp⟩
theorem places_lt {n:Nat} {f:Nat->Option Int} {h:Int} {j:Nat} (hj:j∈placesWithHash n f h):j < n:=by
 unfold placesWithHash at hj
 exact List.mem_range.mp (List.mem_filter.mp hj).1
theorem places_nd {n:Nat} {f:Nat->Option Int} {h:Int}:(placesWithHash n f h).Nodup:=by
 unfold placesWithHash
 exact List.Nodup.sublist List.filter_sublist List.nodup_range
theorem nd_ix {α:Type} {xs:List α} (hn:xs.Nodup) {i j:Nat} {k:α} (hi:xs[i]?=some k) (hj:xs[j]?=some k):i=j :=
 (List.getElem?_inj (List.getElem?_eq_some_iff.mp hi).1 hn).mp (hi.trans hj.symm)
variable {A:Around} {s:Shared}
theorem find_D {d:Addr} {o:Obj} {es:Array DictEntry} {ep:Nat} {ks:List PyData} {k:PyData} {key:Value} {Q:Option Nat->Shared->Prop} (hu:A.units+8 < cLine) (hk:Ask s.heap k key)
   (ho:s.heap.get? d=some o) (hd:o.data=.dict es ep) (hes:Ents w s.heap ks es.toList) (hn:ks.Nodup) (hnone:k ∉ ks->Q none s) (hsome:∀ j:Nat,ks[j]?=some k->Q (some j) s) :
   wpAny (model prog w) A (dictFind d key (hashD w k)) Q E s:=by
 obtain ⟨kk,kdp,⟨as,kr⟩,ksh⟩:=hk
 have hget:∀ (j:Nat) (e:DictEntry),es[j]?=some e->∃ k',ks[j]?=some k'/\Ent w s.heap k' e:=λj e h=>f2_get hes j e (by rw [Array.getElem?_toList];exact h)
 have hget':∀ (j:Nat) (k':PyData),ks[j]?=some k'->∃ e,es[j]?=some e/\Ent w s.heap k' e:=λj k' h=>by
   obtain ⟨e,h1,h2⟩:=f2_get' hes j k' h
   exact ⟨e,by rw [← Array.getElem?_toList];exact h1,h2⟩
 have hplace:∀ j:Nat,ks[j]?=some k->j∈placesWithHash es.size (λi=>es[i]?.map (·.hash)) (hashD w k):=λj h=>by
   obtain ⟨e,h1,_,_,_,h2⟩:=hget' j k h
   exact mem_places (Array.getElem?_eq_some_iff.mp h1).1 (by rw [h1,← h2];rfl)
 have heq:∀ (k':PyData) (e:DictEntry) (R:Bool->Shared->Prop),Ent w s.heap k' e->(k'=k->R true s)->(k'≠k->R false s)->wpAny (model prog w) A (eqBool e.key key) R E s:=λk' e R h h1 h2=>by
   obtain ⟨ek,ed,⟨bs,er⟩,_⟩:=h
   refine SeqAt.eqAt_reads k' k A s _ _ _ _ er kr (kd_lay _ ek) (kd_lay _ kk) (by omega) prog w E R ?_
   by_cases z:k'=k
   · rw [(eqv_iff k' k ek kk).mpr z];exact h1 z
   · have:PyData.eqv k' k=false:=by
       cases q:PyData.eqv k' k with
       | false=>rfl
       | true=>exact absurd ((eqv_iff k' k ek kk).mp q) z
     rw [this];exact h2 z
 have none_of:(∀ j:Nat,ks[j]?=some k->j∈([]:List Nat))->Q none s:=λh=>hnone λm=>by
   obtain ⟨j,hj⟩:=List.mem_iff_getElem?.mp m
   exact absurd (h j hj) (by simp)
 have plain:wpAny (model prog w) A (dictWalkPlain d key (hashD w k) es (placesWithHash es.size (λi=>es[i]?.map (·.hash)) (hashD w k))) Q E s:=by
   refine wpAny_bind ?_
   refine wpAny_forIn_list _ (λrest b s'=>s'=s/\b=(none,())/\(∀ j:Nat,ks[j]?=some k->j∈rest)/\∀ j∈rest,j < es.size) _ ?_ ?_ _ _ ⟨rfl,rfl,hplace,λj=>places_lt⟩
   · rintro x rest b s' ⟨rfl,rfl,hin,hlt⟩
     have hx:=hlt x List.mem_cons_self
     have hlt':∀ j∈rest,j < es.size:=λj hj=>hlt j (List.mem_cons_of_mem _ hj)
     obtain ⟨k',hk',he⟩:=hget x es[x] (Array.getElem?_eq_getElem hx)
     have next:k'≠k->∀ j:Nat,ks[j]?=some k->j∈rest:=λz j hj=>by
       rcases List.mem_cons.mp (hin j hj) with q | q
       · subst q;rw [hk'] at hj;exact absurd (Option.some.inj hj) z
       · exact q
     simp only [Array.getElem?_eq_getElem hx]
     by_cases hh:(es[x].hash == hashD w k)=true
     · rw [if_pos hh]
       refine wpAny_bind (wpAny_dictEpoch ho hd (wpAny_bind (heq k' es[x] _ he (λz=>wpAny_bind (wpAny_dictEpoch ho hd ?_)) (λz=>wpAny_bind (wpAny_dictEpoch ho hd ?_)))))
       · show wpAny _ _ (if (ep != ep)=true then _ else _) _ E _
         rw [if_neg (by simp)]
         exact wpAny_bind (wpAny_rule (wpAny_pure (wpAny_pure (hsome x (z ▸ hk')))))
       · show wpAny _ _ (if (ep != ep)=true then _ else _) _ E _
         rw [if_neg (by simp)]
         exact wpAny_bind (wpAny_rule (wpAny_pure ⟨rfl,rfl,next z,hlt'⟩))
     · rw [if_neg hh]
       refine wpAny_pure ⟨rfl,rfl,next λz=>hh ?_,hlt'⟩
       rw [he.2.2.2,z];simp
   · rintro b s' ⟨rfl,rfl,hin,_⟩
     exact wpAny_pure (none_of hin)
 have hstored:∀ v∈(placesWithHash es.size (λi=>es[i]?.map (·.hash)) (hashD w k)).filterMap (λi=>es[i]?.map (·.key)),∃ k' bs,kd k'=true/\k'.depth <= 8/\Reads s.heap v k' bs:=λv hv=>by
   obtain ⟨i,_,hi⟩:=List.mem_filterMap.mp hv
   cases q:es[i]? with
   | none=>rw [q] at hi;cases hi
   | some e =>
     rw [q] at hi
     have z:e.key=v:=by simpa using hi
     obtain ⟨k',_,h1,h2,⟨bs,h3⟩,_⟩:=hget i e q
     exact ⟨k',bs,h1,h2,z ▸ h3⟩
 have htell:∀ (R:Bool->Shared->Prop),R false s->wpAny (model prog w) A (tableMayTell key ((placesWithHash es.size (λi=>es[i]?.map (·.hash)) (hashD w k)).filterMap (λi=>es[i]?.map (·.key)))) R E s:=λR h=>by
   unfold tableMayTell
   split
   · exact wpAny_pure h
   · refine wpAny_bind (quiet_go 8 k key _ A s _ kk kr kdp ?_)
     simp only [Bool.not_true,Bool.false_eq_true,if_false]
     refine wpAny_bind ?_
     refine wpAny_forIn_list _ (λrest r s'=>s'=s/\r=(none,())/\∀ v∈rest,∃ k' bs,kd k'=true/\k'.depth <= 8/\Reads s.heap v k' bs) _ ?_ ?_ _ _ ⟨rfl,rfl,hstored⟩
     · rintro x rest r s' ⟨rfl,rfl,hr⟩
       obtain ⟨k',bs,h1,h2,h3⟩:=hr x List.mem_cons_self
       refine wpAny_bind (quiet_go 8 k' x _ A _ _ h1 h3 h2 ?_)
       simp only [Bool.not_true,Bool.false_eq_true,if_false]
       exact wpAny_pure ⟨rfl,rfl,λv hv=>hr v (List.mem_cons_of_mem _ hv)⟩
     · rintro r s' ⟨rfl,rfl,_⟩
       exact wpAny_pure h
 have hany:∀ a:Addr,key=.ref a->¬ (es.any λe=>e.key == Value.ref a && e.hash != hashD w k)=true:=by
   rintro a rfl h
   rw [← Array.any_toList,List.any_eq_true] at h
   obtain ⟨e,hin,hc⟩:=h
   obtain ⟨j,hj⟩:=List.mem_iff_getElem?.mp hin
   obtain ⟨k',hk',h1,h2,⟨bs,h3⟩,h4⟩:=hget j e (by rw [← Array.getElem?_toList];exact hj)
   rw [Bool.and_eq_true] at hc
   have z1:e.key=.ref a:=beq_iff_eq.mp hc.1
   rw [z1] at h3
   have z2:=SeqAt.Reads.unique k' k _ _ _ (kd_lay _ h1) h3 kr
   rw [h4,z2] at hc
   simp at hc
 unfold dictFind
 refine wpAny_holding ?_
 refine wpAny_bind (wpAny_dictEntries ho hd ?_)
 dsimp only
 rcases ksh with ⟨x,t,rfl⟩ | ⟨a,rfl⟩
 · dsimp only
   by_cases hstr:(es.all λe=>isExactStrKey e.key)=true
   · rw [if_pos hstr]
     unfold foundByValue
     have kx:k=.str x:=by cases kr;rfl
     have hkey:∀ (j:Nat) (e:DictEntry),es[j]?=some e->∃ k',ks[j]?=some k'/\Ent w s.heap k' e/\(e.key.isStr x=true ↔ k'=k):=λj e h=>by
       obtain ⟨k',h1,h2⟩:=hget j e h
       refine ⟨k',h1,h2,?_⟩
       have hs:isExactStrKey e.key=true:=by
         have q:=Array.all_eq_true.mp hstr
         obtain ⟨hl,he⟩:=Array.getElem?_eq_some_iff.mp h
         have:=q j hl
         rw [he] at this;exact this
       obtain ⟨_,_,⟨bs,h3⟩,_⟩:=h2
       cases hv:e.key with
       | str y u =>
         rw [hv] at h3
         cases h3
         show (y == x)=true ↔ _
         rw [kx,beq_iff_eq]
         exact ⟨λz=>by rw [z],λz=>by injection z⟩
       | _=>rw [hv] at hs;cases hs
     cases hf:es.findIdx? (λe=>e.key.isStr x) with
     | none =>
       refine wpAny_pure (hnone λm=>?_)
       obtain ⟨j,hj⟩:=List.mem_iff_getElem?.mp m
       obtain ⟨e,he,_⟩:=hget' j k hj
       obtain ⟨k',h1,_,h2⟩:=hkey j e he
       rw [hj] at h1
       have h3:=Array.findIdx?_eq_none_iff.mp hf e (Array.mem_of_getElem? he)
       rw [h2.mpr (Option.some.inj h1).symm] at h3
       cases h3
     | some i =>
       obtain ⟨hlt,hi,_⟩:=Array.findIdx?_eq_some_iff_getElem.mp hf
       obtain ⟨k',h1,h2,h3⟩:=hkey i es[i] (Array.getElem?_eq_getElem hlt)
       have z:k'=k:=h3.mp hi
       simp only [Array.getElem?_eq_getElem hlt]
       refine wpAny_bind (wpAny_dictEpoch ho hd (wpAny_bind (heq k' es[i] _ h2 (λ_=>wpAny_bind (wpAny_dictEpoch ho hd ?_)) (λq=>absurd z q))))
       rw [if_neg (by simp)]
       simp only [if_true]
       exact wpAny_bind (wpAny_rule (wpAny_pure (hsome i (z ▸ h1))))
   · rw [if_neg hstr]
     by_cases hall:((Value.str x t :: (placesWithHash es.size (λi=>es[i]?.map (·.hash)) (hashD w k)).filterMap (λi=>es[i]?.map (·.key))).all carriedByValue)=true
     · rw [if_pos hall]
       exact plain
     · rw [if_neg hall]
       by_cases hone:(((placesWithHash es.size (λi=>es[i]?.map (·.hash)) (hashD w k)).filterMap (λi=>es[i]?.map (·.key))) == [Value.str x t])=true
       all_goals
         first
           | (rw [if_pos hone];refine wpAny_bind (wpAny_pure ?_))
           | (rw [if_neg hone];refine wpAny_bind (htell _ ?_))
         rw [if_neg (by simp)]
         refine wpAny_bind (wpAny_forIn_list _ (λrest b s'=>s'=s/\∃ hit,b=(none,hit)/\((hit=none/\∀ j:Nat,ks[j]?=some k->j∈rest)\/∃ j,hit=some j/\ks[j]?=some k/\j ∉ rest)/\(∀ j∈rest,j < es.size)/\rest.Nodup) _ ?_ ?_ _ _
           ⟨rfl,none,rfl,.inl ⟨rfl,hplace⟩,λj=>places_lt,places_nd⟩)
         · rintro x rest b s' ⟨rfl,hit,rfl,hin,hlt,hnd⟩
           have hx:=hlt x List.mem_cons_self
           have hlt':∀ j∈rest,j < es.size:=λj hj=>hlt j (List.mem_cons_of_mem _ hj)
           obtain ⟨hxr,hnd'⟩:=List.nodup_cons.mp hnd
           obtain ⟨k',hk',he⟩:=hget x es[x] (Array.getElem?_eq_getElem hx)
           have next:k'≠k->((hit=none/\∀ j:Nat,ks[j]?=some k->j∈rest)\/∃ j,hit=some j/\ks[j]?=some k/\j ∉ rest):=λz=>by
             rcases hin with ⟨h0,hin⟩ | ⟨j,h0,hj,hjr⟩
             · refine .inl ⟨h0,λj hj=>?_⟩
               rcases List.mem_cons.mp (hin j hj) with q | q
               · subst q;rw [hk'] at hj;exact absurd (Option.some.inj hj) z
               · exact q
             · exact .inr ⟨j,h0,hj,λq=>hjr (List.mem_cons_of_mem _ q)⟩
           simp only [Array.getElem?_eq_getElem hx]
           by_cases hh:(es[x].hash == hashD w k)=true
           · rw [if_pos hh]
             refine wpAny_bind (wpAny_dictEpoch ho hd (wpAny_bind (heq k' es[x] _ he (λz=>wpAny_bind (wpAny_dictEpoch ho hd ?_)) (λz=>wpAny_bind (wpAny_dictEpoch ho hd ?_)))))
             · rw [if_neg (by simp)]
               have hkx:ks[x]?=some k:=z ▸ hk'
               rcases hin with ⟨rfl,hin⟩ | ⟨j,_,hj,hjr⟩
               · simp only [Option.isSome_none,Bool.false_eq_true,if_false,if_true]
                 refine wpAny_bind (wpAny_rule ?_)
                 split
                 · exact wpAny_pure (wpAny_pure (hsome x hkx))
                 · exact wpAny_pure ⟨rfl,some x,rfl,.inr ⟨x,rfl,hkx,hxr⟩,hlt',hnd'⟩
               · exact absurd (nd_ix hn hj hkx ▸ List.mem_cons_self) hjr
             · rw [if_neg (by simp)]
               simp only [Bool.false_eq_true,if_false]
               refine wpAny_bind (wpAny_rule ?_)
               try rw [if_neg (by simp)]
               exact wpAny_pure ⟨rfl,hit,rfl,next z,hlt',hnd'⟩
           · rw [if_neg hh]
             refine wpAny_pure ⟨rfl,hit,rfl,next λz=>hh ?_,hlt',hnd'⟩
             rw [he.2.2.2,z];simp
         · rintro b s' ⟨rfl,hit,rfl,hin,_⟩
           rcases hin with ⟨rfl,hin⟩ | ⟨j,rfl,hj,_⟩
           · exact wpAny_pure (none_of hin)
           · exact wpAny_pure (hsome j hj)
 · dsimp only
   rw [if_neg (show ¬ ((Value.ref a :: (placesWithHash es.size (λi=>es[i]?.map (·.hash)) (hashD w k)).filterMap (λi=>es[i]?.map (·.key))).all carriedByValue)=true from by simp [carriedByValue]),if_neg (hany a rfl)]
   by_cases hone:(((placesWithHash es.size (λi=>es[i]?.map (·.hash)) (hashD w k)).filterMap (λi=>es[i]?.map (·.key))) == [Value.ref a])=true
   all_goals
     first
       | (rw [if_pos hone];refine wpAny_bind (wpAny_pure ?_))
       | (rw [if_neg hone];refine wpAny_bind (htell _ ?_))
     rw [if_neg (by simp)]
     refine wpAny_bind (wpAny_forIn_list _ (λrest b s'=>s'=s/\∃ hit,b=(none,hit)/\((hit=none/\∀ j:Nat,ks[j]?=some k->j∈rest)\/∃ j,hit=some j/\ks[j]?=some k/\j ∉ rest)/\(∀ j∈rest,j < es.size)/\rest.Nodup) _ ?_ ?_ _ _
       ⟨rfl,none,rfl,.inl ⟨rfl,hplace⟩,λj=>places_lt,places_nd⟩)
     · rintro x rest b s' ⟨rfl,hit,rfl,hin,hlt,hnd⟩
       have hx:=hlt x List.mem_cons_self
       have hlt':∀ j∈rest,j < es.size:=λj hj=>hlt j (List.mem_cons_of_mem _ hj)
       obtain ⟨hxr,hnd'⟩:=List.nodup_cons.mp hnd
       obtain ⟨k',hk',he⟩:=hget x es[x] (Array.getElem?_eq_getElem hx)
       have next:k'≠k->((hit=none/\∀ j:Nat,ks[j]?=some k->j∈rest)\/∃ j,hit=some j/\ks[j]?=some k/\j ∉ rest):=λz=>by
         rcases hin with ⟨h0,hin⟩ | ⟨j,h0,hj,hjr⟩
         · refine .inl ⟨h0,λj hj=>?_⟩
           rcases List.mem_cons.mp (hin j hj) with q | q
           · subst q;rw [hk'] at hj;exact absurd (Option.some.inj hj) z
           · exact q
         · exact .inr ⟨j,h0,hj,λq=>hjr (List.mem_cons_of_mem _ q)⟩
       simp only [Array.getElem?_eq_getElem hx]
       by_cases hh:(es[x].hash == hashD w k)=true
       · rw [if_pos hh]
         refine wpAny_bind (wpAny_dictEpoch ho hd (wpAny_bind (heq k' es[x] _ he (λz=>wpAny_bind (wpAny_dictEpoch ho hd ?_)) (λz=>wpAny_bind (wpAny_dictEpoch ho hd ?_)))))
         · rw [if_neg (by simp)]
           have hkx:ks[x]?=some k:=z ▸ hk'
           rcases hin with ⟨rfl,hin⟩ | ⟨j,_,hj,hjr⟩
           · simp only [Option.isSome_none,Bool.false_eq_true,if_false,if_true]
             refine wpAny_bind (wpAny_rule ?_)
             split
             · exact wpAny_pure (wpAny_pure (hsome x hkx))
             · exact wpAny_pure ⟨rfl,some x,rfl,.inr ⟨x,rfl,hkx,hxr⟩,hlt',hnd'⟩
           · exact absurd (nd_ix hn hj hkx ▸ List.mem_cons_self) hjr
         · rw [if_neg (by simp)]
           simp only [Bool.false_eq_true,if_false]
           refine wpAny_bind (wpAny_rule ?_)
           try rw [if_neg (by simp)]
           exact wpAny_pure ⟨rfl,hit,rfl,next z,hlt',hnd'⟩
       · rw [if_neg hh]
         refine wpAny_pure ⟨rfl,hit,rfl,next λz=>hh ?_,hlt',hnd'⟩
         rw [he.2.2.2,z];simp
     · rintro b s' ⟨rfl,hit,rfl,hin,_⟩
       rcases hin with ⟨rfl,hin⟩ | ⟨j,rfl,hj,_⟩
       · exact wpAny_pure (none_of hin)
       · exact wpAny_pure (hsome j hj)
def DictE (h:Heap) (d:Addr) (es:List DictEntry) (ep:Nat):Prop:=∃ o,h.get? d=some o/\o.ExactDict/\o.data=.dict es.toArray ep
def DictEs (h:Heap) (d:Addr) (es:List DictEntry):Prop:=∃ o ep,h.get? d=some o/\o.ExactDict/\o.data=.dict es.toArray ep
theorem DictEs.ep {h:Heap} {d:Addr} {es:List DictEntry} (x:DictEs h d es):∃ ep,DictE h d es ep:=let ⟨o,ep,e⟩:=x;⟨ep,o,e⟩
theorem DictE.es {h:Heap} {d:Addr} {es:List DictEntry} {ep:Nat} (x:DictE h d es ep):DictEs h d es:=let ⟨o,e⟩:=x;⟨o,ep,e⟩
theorem DictE.typeIs {s:Shared} {d:Addr} {es:List DictEntry} {ep:Nat} (x:DictE s.heap d es ep):s.TypeIs (.ref d) "dict":=let ⟨o,ho,hc,_⟩:=x;⟨o,ho,hc.1⟩
theorem DictEs.typeIs {s:Shared} {d:Addr} {es:List DictEntry} (x:DictEs s.heap d es):s.TypeIs (.ref d) "dict":=let ⟨o,_,ho,hc,_⟩:=x;⟨o,ho,hc.1⟩
theorem DictEs.toks {s:Shared} {d:Addr} {es:List DictEntry} (x:DictEs s.heap d es) (tk:Nat):DictEs ({ s with toks:=tk }:Shared).heap d es:=x
theorem get_D {d:Addr} {es:List DictEntry} {ks:List PyData} {k:PyData} {key:Value} {Q:Option Value->Shared->Prop} (hu:A.units+8 < cLine) (hk:Ask s.heap k key)
   (hm:DictEs s.heap d es) (hes:Ents w s.heap ks es) (hn:ks.Nodup) (hnone:k ∉ ks->∀ tk,Q none { s with toks:=tk })
   (hsome:∀ (j:Nat) (e:DictEntry),ks[j]?=some k->es[j]?=some e->∀ tk,Q (some e.val) { s with toks:=tk }):wpAny (model prog w) A (dictGet d key) Q E s:=by
 obtain ⟨o,ep,ho,hc,hd⟩:=hm
 obtain ⟨kk,kdp,⟨as,kr⟩,ksh⟩:=id hk
 unfold dictGet
 refine wpAny_holding (wpAny_bind (hash_go k key as A s _ kk kr (by omega) λtk=>wpAny_bind (find_D (s:={ s with toks:=tk }) hu hk ho hd hes hn ?_ ?_)))
 · exact λh=>wpAny_pure (hnone h tk)
 · intro j hj
   refine wpAny_bind (wpAny_dictEntries (s:={ s with toks:=tk }) ho hd ?_)
   obtain ⟨e,he,_⟩:=f2_get' hes j k hj
   have q:es.toArray[j]?=some e:=by rw [List.getElem?_toArray];exact he
   rw [q]
   exact wpAny_pure (hsome j e hj he tk)
theorem set_D {d:Addr} {es:List DictEntry} {ks:List PyData} {k:PyData} {key v:Value} {Q:Unit->Shared->Prop} (hu:A.units+8 < cLine) (hk:Ask s.heap k key)
   (hm:DictEs s.heap d es) (hes:Ents w s.heap ks es) (hn:ks.Nodup) (hsz:es.length <= sizeLine)
   (hQ:∀ (h':Heap) (tk:Nat) (es':List DictEntry),DictEs h' d es'->Heap.SameBut d s.heap h'->((k ∉ ks/\es'=es++[⟨hashD w k,key,v⟩])\/∃ j:Nat,ks[j]?=some k/\es'=es.modify j λe=>{ e with val:=v }) ->
     Q () { s with heap:=h',toks:=tk }):wpAny (model prog w) A (dictSet d key v) Q E s:=by
 obtain ⟨o,ep,ho,hc,hd⟩:=hm
 obtain ⟨kk,kdp,⟨as,kr⟩,ksh⟩:=id hk
 unfold dictSet
 refine wpAny_holding (wpAny_bind (hash_go k key as A s _ kk kr (by omega) λtk=>?_))
 unfold dictSetHashed
 refine wpAny_holding (wpAny_bind (find_D (s:={ s with toks:=tk }) hu hk ho hd hes hn ?_ ?_))
 · intro h
   refine wpAny_bind (wpAny_rule (wpAny_updateDictKeys (hz:=by simpa using hsz) (s:={ s with toks:=tk }) ho hd (hQ _ tk (es++[⟨hashD w k,key,v⟩]) ⟨_,ep+1,Heap.get?_update_self _ ho (Obj.isFreed_of_dict (Obj.data_mapDictKeys hd _)),hc.mapDictKeys _,?_⟩ (Heap.SameBut.update ..) (.inl ⟨h,rfl⟩))))
   rw [Obj.data_mapDictKeys hd _]
   simp
 · intro j hj
   refine wpAny_bind (wpAny_rule (wpAny_bind (wpAny_updateDict (s:={ s with toks:=tk }) ho hd (wpAny_point (hQ _ tk (es.modify j λe=>{ e with val:=v }) ⟨_,ep,Heap.get?_update_self _ ho (Obj.isFreed_of_dict (Obj.data_mapDict hd _)),hc.mapDict _,?_⟩ (Heap.SameBut.update ..) (.inr ⟨j,hj,rfl⟩))))))
   rw [Obj.data_mapDict hd _]
   simp
theorem meets_D (d:Addr) (key dflt:Value) (hd:(d == sysModules)=false) :
   MeetsIn prog w (Builtin.«dict.get» ⟨[.ref d,key,dflt],[]⟩) (λA R s=>A.in1.units+8 < cLine/\∃ k ks es,Ask s.heap k key/\DictEs s.heap d es/\Ents w s.heap ks es/\ks.Nodup /\
     (k ∉ ks->∀ tk,R (.ok (.ret dflt)) { s with toks:=tk })/\∀ (j:Nat) (e:DictEntry),ks[j]?=some k->es[j]?=some e->∀ tk,R (.ok (.ret e.val)) { s with toks:=tk }) :=
 .of_wp λA R s ⟨hu,k,ks,es,hk,hm,hes,hn,h1,h2⟩=>by
   show wpAny _ _ (dictGet d key >>= _) _ _ s
   refine wpAny_bind (get_D hu hk hm hes hn (λh tk=>?_) λj e hj he tk=>wpAny_pure ⟨_,rfl,h2 j e hj he tk⟩)
   show wpAny _ _ (Builtin.Dict.missed d key >>= _) _ _ _
   exact wpAny_bind (wpAny_missed_other hd (wpAny_pure ⟨dflt,rfl,h1 h tk⟩))
theorem put_D {d:Addr} {es:List DictEntry} {ks:List PyData} {k:PyData} {key v:Value} {Q:Unit->Shared->Prop} (hu:A.in1.units+8 < cLine) (hk:Ask s.heap k key)
   (hm:DictEs s.heap d es) (hes:Ents w s.heap ks es) (hn:ks.Nodup) (hsz:es.length <= sizeLine)
   (hQ:∀ (h':Heap) (tk:Nat) (es':List DictEntry),DictEs h' d es'->Heap.SameBut d s.heap h'->((k ∉ ks/\es'=es++[⟨hashD w k,key,v⟩])\/∃ j:Nat,ks[j]?=some k/\es'=es.modify j λe=>{ e with val:=v }) ->
     Q () { s with heap:=h',toks:=tk }):wpAny (model prog w) A (setItem (.ref d) key v) Q E s:=by
 unfold setItem
 refine wpAny_holding (wpAny_bind (wpAny_sequenceKey hm.typeIs (by decide) (wpAny_bind (wpAny_callSpecial?_slot (name:=Str.ofString "__setitem__") hm.typeIs slot_dict_setitem
   (wpAny_call_entry slot_dict_setitem hm.typeIs entry_dict_setitem ?_ (args_dict_setitem _ _ _))))))
 show wpAny _ _ (Builtin.Dict.notOrdered "__setitem__" ⟨[.ref d,key,v],[]⟩ >>= _) _ _ s
 refine wpAny_bind (wpAny_notOrdered_dict hm.typeIs ?_)
 show wpAny _ _ (dictSet d key v >>= _) _ _ s
 exact wpAny_bind (set_D hu hk hm hes hn hsz λh' tk es' a b c=>wpAny_pure ⟨.none,rfl,wpAny_pure (hQ h' tk es' a b c)⟩)
end
end MX

namespace L2
open PySem PySem.Spec PyProof.Rows
mutual
def DV (H:Hp):PyData->V->Prop
 | .none,x=>x=.non
 | .bool b,x=>x=.bl b
 | .int i,x=>x=.int i
 | .str t,x=>x=.str t
 | .list ds,x=>∃ (a:Addr) (vs:List V),x=.ref a/\H a=some (.lst vs)/\DVs H ds vs
 | .tuple ds,x=>∃ (a:Addr) (vs:List V),x=.ref a/\H a=some (.tup vs)/\DVs H ds vs
 | .dict _,_=>False
def DVs (H:Hp):List PyData->List V->Prop
 | [],vs=>vs=[]
 | d :: ds,vs=>∃ (v:V) (r:List V),vs=v :: r/\DV H d v/\DVs H ds r
end
section
variable {P:Program} {w:World} {H H':Hp} {h:Heap}
mutual
theorem DV.reads (ok:HOk P w H h):∀ (d:PyData) (x:V) (u:Value),DV H d x->RelV x u->∃ as,Reads h u d as
 | .none,_,_,e,r=>by cases e;cases r;exact ⟨_,.none⟩
 | .bool b,_,_,e,r=>by cases e;cases r;exact ⟨_,.bool b⟩
 | .int i,_,_,e,r=>by cases e;obtain ⟨t,rfl⟩:=r;exact ⟨_,.int i t⟩
 | .str y,_,_,e,r=>by cases e;obtain ⟨t,rfl⟩:=r;exact ⟨_,.str y t⟩
 | .list ds,_,_,e,r=>by
   obtain ⟨a,vs,rfl,ha,hv⟩:=e
   cases r
   obtain ⟨_,its,n,rv,hg⟩:=ok a _ ha
   obtain ⟨as,q⟩:=DVs.reads ok ds vs its hv rv
   exact ⟨_,.list hg rfl rfl (by simpa using q)⟩
 | .tuple ds,_,_,e,r=>by
   obtain ⟨a,vs,rfl,ha,hv⟩:=e
   cases r
   obtain ⟨_,its,rv,o,hg,hc,n,hd⟩:=ok a _ ha
   obtain ⟨as,q⟩:=DVs.reads ok ds vs its hv rv
   exact ⟨_,.tuple hg hc hd (by simpa using q)⟩
 | .dict _,_,_,e,_=>False.elim e
theorem DVs.reads (ok:HOk P w H h):∀ (ds:List PyData) (vs:List V) (us:List Value),DVs H ds vs->Vals vs us->∃ as,ReadsAll h us ds as
 | [],_,_,e,r=>by cases e;cases r;exact ⟨_,.nil⟩
 | d :: ds,_,_,e,r=>by
   obtain ⟨v,vs,rfl,h1,h2⟩:=e
   cases r with
   | cons r1 r2 =>
     obtain ⟨as,q1⟩:=DV.reads ok d _ _ h1 r1
     obtain ⟨bs,q2⟩:=DVs.reads ok ds _ _ h2 r2
     exact ⟨_,.cons q1 q2⟩
end
mutual
theorem DV.mono (hs:∀ b vs,H b=some (.lst vs)->H' b=some (.lst vs)) (ht:∀ b vs,H b=some (.tup vs)->H' b=some (.tup vs)):∀ (d:PyData) (x:V),DV H d x->DV H' d x
 | .none,_,e=>e
 | .bool _,_,e=>e
 | .int _,_,e=>e
 | .str _,_,e=>e
 | .list ds,_,⟨a,vs,e,ha,hv⟩=>⟨a,vs,e,hs _ _ ha,DVs.mono hs ht ds vs hv⟩
 | .tuple ds,_,⟨a,vs,e,ha,hv⟩=>⟨a,vs,e,ht _ _ ha,DVs.mono hs ht ds vs hv⟩
 | .dict _,_,e=>e
theorem DVs.mono (hs:∀ b vs,H b=some (.lst vs)->H' b=some (.lst vs)) (ht:∀ b vs,H b=some (.tup vs)->H' b=some (.tup vs)):∀ (ds:List PyData) (vs:List V),DVs H ds vs->DVs H' ds vs
 | [],_,e=>e
 | d :: ds,_,⟨v,r,e,h1,h2⟩=>⟨v,r,e,DV.mono hs ht d v h1,DVs.mono hs ht ds r h2⟩
end
mutual
theorem DV.keep (ht:∀ b vs,H b=some (.tup vs)->H' b=some (.tup vs)):∀ (d:PyData) (x:V),MX.kd d=true->DV H d x->DV H' d x
 | .int _,_,_,e=>e
 | .str _,_,_,e=>e
 | .tuple ds,_,k,⟨a,vs,e,ha,hv⟩=>⟨a,vs,e,ht _ _ ha,DVs.keep ht ds vs k hv⟩
 | .none,_,k,_=>by cases k
 | .bool _,_,k,_=>by cases k
 | .list _,_,k,_=>by cases k
 | .dict _,_,k,_=>by cases k
theorem DVs.keep (ht:∀ b vs,H b=some (.tup vs)->H' b=some (.tup vs)):∀ (ds:List PyData) (vs:List V),MX.kds ds=true->DVs H ds vs->DVs H' ds vs
 | [],_,_,e=>e
 | d :: ds,_,k,⟨v,r,e,h1,h2⟩=>by
   have k':(MX.kd d && MX.kds ds)=true:=k
   rw [Bool.and_eq_true] at k'
   exact ⟨v,r,e,DV.keep ht d v k'.1 h1,DVs.keep ht ds r k'.2 h2⟩
end
theorem DVs.length:∀ {ds:List PyData} {vs:List V},DVs H ds vs->vs.length=ds.length
 | [],_,e=>by cases e;rfl
 | d :: ds,_,⟨v,r,e,_,h2⟩=>by subst e;rw [List.length_cons,List.length_cons,DVs.length h2]
theorem DVs.get:∀ {ds:List PyData} {vs:List V} {j:Nat} {v:V},DVs H ds vs->vs[j]?=some v->∃ d,ds[j]?=some d/\DV H d v
 | [],_,j,v,e,g=>by cases e;simp at g
 | d :: ds,_,0,v,⟨v',r,e,h1,h2⟩,g=>by subst e;simp at g;subst g;exact ⟨d,rfl,h1⟩
 | d :: ds,_,j+1,v,⟨v',r,e,h1,h2⟩,g=>by
   subst e
   obtain ⟨d',a,b⟩:=DVs.get (j:=j) (v:=v) h2 (by simpa using g)
   exact ⟨d',by simpa using a,b⟩
theorem DVs.snoc:∀ {ds:List PyData} {vs:List V} {d:PyData} {v:V},DVs H ds vs->DV H d v->DVs H (ds++[d]) (vs++[v])
 | [],_,d,v,e,h=>by cases e;exact ⟨v,[],rfl,h,rfl⟩
 | c :: ds,_,d,v,⟨v',r,e,h1,h2⟩,h=>by subst e;exact ⟨v',r++[v],rfl,h1,DVs.snoc h2 h⟩
end
def LayD (d:PyData):Prop:=d.canLay0=true/\d.depth <= 16
theorem LayD.key {d:PyData} (h:MX.kd d=true) (h2:d.depth <= 8):LayD d:=⟨MX.kd_lay d h,by omega⟩
theorem LayD.int (i:Int):LayD (.int i):=⟨rfl,by show 0 <= 16;decide⟩
def rEqD (neg:Bool):R2:=λx y H Q=>∃ d e,DV H d x/\DV H e y/\LayD d/\LayD e/\Q (.bl (if neg then !PyData.eqv d e else PyData.eqv d e)) H
section
variable {X:Cx}
theorem op_eqD (hu:X.A.units+64 < cLine):OpR X (compareOp .Eq) (rEqD false):=by
 intro pins s σ H x y v u Q I rx ry h
 obtain ⟨d,e,h1,h2,l1,l2,q⟩:=h
 obtain ⟨as,r1⟩:=DV.reads I.hok d x v h1 rx
 obtain ⟨bs,r2⟩:=DV.reads I.hok e y u h2 ry
 exact SeqAt.compareEq_reads r1 r2 l1.1 l2.1 (by have:=l1.2;omega) ⟨.bl _,H,I,rfl,q⟩
end
def DObj (a:Addr) (es:List DictEntry) (ep:Nat):HO:=.ext λh=>(a == sysModules)=false/\MX.DictE h a es ep
def KEnt (w:World) (H:Hp) (p:PyData × V) (e:DictEntry):Prop:=MX.kd p.1=true/\p.1.depth <= 8/\e.hash=MX.hashD w p.1/\(∃ x,RelV x e.key/\DV H p.1 x)/\RelV p.2 e.val
def MD (w:World) (H:Hp) (a:Addr) (kvs:List (PyData × V)):Prop:=∃ es ep,H a=some (DObj a es ep)/\Paired (KEnt w H) kvs es/\(kvs.map (·.1)).Nodup/\kvs.length <= sizeLine
def KeyV (H:Hp) (k:PyData) (y:V):Prop:=MX.kd k=true/\k.depth <= 8/\DV H k y/\((∃ t,y=.str t)\/∃ b,y=.ref b)
def lookD (kvs:List (PyData × V)) (k:PyData):Option V:=(kvs.find? λp=>PyData.eqv p.1 k).map (·.2)
def putD (kvs:List (PyData × V)) (k:PyData) (v:V):List (PyData × V) :=
 if (kvs.any λp=>PyData.eqv p.1 k)=true then kvs.map (λp=>if PyData.eqv p.1 k=true then (p.1,v) else p) else kvs++[(k,v)]
theorem DObj.ok {P:Program} {w:World} {H:Hp} {h:Heap} {a:Addr} {es:List DictEntry} {ep:Nat} (hs:(a == sysModules)=false) (hm:MX.DictE h a es ep):ObjOk P w H h a (DObj a es ep):=by
 refine ⟨⟨hs,hm⟩,?_,λh1 h2 ⟨z,o,e,r⟩ k=>⟨z,o,k o e,r⟩⟩
 obtain ⟨o,e,_⟩:=hm
 exact ⟨o,e⟩
theorem DObj.of {P:Program} {w:World} {H:Hp} {h:Heap} {a:Addr} {es:List DictEntry} {ep:Nat} (ok:HOk P w H h) (e:H a=some (DObj a es ep)):(a == sysModules)=false/\MX.DictE h a es ep:=by
 obtain ⟨q,_⟩:=ok a _ e
 exact q
theorem Paired.keys {w:World} {H:Hp}:∀ {kvs:List (PyData × V)} {es:List DictEntry},Paired (KEnt w H) kvs es->kvs.length=es.length
 | _,_,.nil=>rfl
 | _,_,.cons _ t=>by rw [List.length_cons,List.length_cons,Paired.keys t]
theorem ents_of {P:Program} {w:World} {H:Hp} {h:Heap} (ok:HOk P w H h):∀ {kvs:List (PyData × V)} {es:List DictEntry},Paired (KEnt w H) kvs es->MX.Ents w h (kvs.map (·.1)) es
 | _,_,.nil=>.nil
 | _,_,.cons ⟨k1,k2,k3,⟨x,rx,dx⟩,_⟩ t=>.cons ⟨k1,k2,DV.reads ok _ _ _ dx rx,k3⟩ (ents_of ok t)
theorem ask_of {P:Program} {w:World} {H:Hp} {h:Heap} {k:PyData} {y:V} {u:Value} (ok:HOk P w H h) (hk:KeyV H k y) (r:RelV y u):MX.Ask h k u:=by
 obtain ⟨k1,k2,k3,k4⟩:=hk
 refine ⟨k1,k2,DV.reads ok _ _ _ k3 r,?_⟩
 rcases k4 with ⟨t,rfl⟩ | ⟨b,rfl⟩
 · obtain ⟨tk,rfl⟩:=r;exact .inl ⟨_,_,rfl⟩
 · cases r;exact .inr ⟨_,rfl⟩
section
variable {w:World} {H:Hp}
theorem eqv_false {d e:PyData} (h1:MX.kd d=true) (h2:MX.kd e=true) (n:d≠e):PyData.eqv d e=false:=by
 cases q:PyData.eqv d e with
 | false=>rfl
 | true=>exact absurd ((MX.eqv_iff d e h1 h2).mp q) n
theorem eqv_self {d:PyData} (h1:MX.kd d=true):PyData.eqv d d=true:=(MX.eqv_iff d d h1 h1).mpr rfl
def KK (kvs:List (PyData × V)):Prop:=∀ p∈kvs,MX.kd p.1=true
theorem KK.of {kvs:List (PyData × V)} {es:List DictEntry}:Paired (KEnt w H) kvs es->KK kvs:=by
 intro r
 induction r with
 | nil=>intro p h;cases h
 | cons a _ ih =>
   intro p h
   rcases List.mem_cons.mp h with rfl | h
   · exact a.1
   · exact ih p h
theorem lookD_at {k:PyData} (hk:MX.kd k=true):∀ {kvs:List (PyData × V)} {j:Nat},KK kvs->(kvs.map (·.1)).Nodup->(kvs.map (·.1))[j]?=some k->∃ v,kvs[j]?=some (k,v)/\lookD kvs k=some v
 | [],j,_,_,e=>by simp at e
 | (a,v) :: r,0,kk,_,e=>by
   simp at e;subst e
   refine ⟨v,rfl,?_⟩
   unfold lookD
   rw [List.find?_cons,eqv_self hk];rfl
 | (a,v) :: r,j+1,kk,nd,e=>by
   have nd':(a :: r.map (·.1)).Nodup:=nd
   obtain ⟨n1,n2⟩:=List.nodup_cons.mp nd'
   have e':(r.map (·.1))[j]?=some k:=by simpa using e
   obtain ⟨v',h1,h2⟩:=lookD_at hk (λp h=>kk p (List.mem_cons_of_mem _ h)) n2 e'
   refine ⟨v',by simpa using h1,?_⟩
   have ne:a≠k:=λz=>n1 (by rw [z];exact List.mem_of_getElem? e')
   unfold lookD at h2 ⊢
   rw [List.find?_cons,eqv_false (kk _ List.mem_cons_self) hk ne]
   exact h2
theorem lookD_no {k:PyData} (hk:MX.kd k=true) {kvs:List (PyData × V)} (kk:KK kvs) (n:k ∉ kvs.map (·.1)):lookD kvs k=none:=by
 unfold lookD
 rw [List.find?_eq_none.mpr λp hp=>?_]
 · rfl
 · rw [eqv_false (kk p hp) hk λz=>n (List.mem_map.mpr ⟨p,hp,z⟩)];decide
theorem putD_no {k:PyData} (hk:MX.kd k=true) {kvs:List (PyData × V)} (kk:KK kvs) (n:k ∉ kvs.map (·.1)) (v:V):putD kvs k v=kvs++[(k,v)]:=by
 unfold putD
 rw [if_neg]
 intro h
 obtain ⟨p,hp,e⟩:=List.any_eq_true.mp h
 exact n (List.mem_map.mpr ⟨p,hp,(MX.eqv_iff _ _ (kk p hp) hk).mp e⟩)
theorem map_put_id {k:PyData} (hk:MX.kd k=true) {kvs:List (PyData × V)} (kk:KK kvs) (n:k ∉ kvs.map (·.1)) (v:V):kvs.map (λp=>if PyData.eqv p.1 k=true then (p.1,v) else p)=kvs:=by
 induction kvs with
 | nil=>rfl
 | cons p r ih =>
   have hp:p.1≠k:=λz=>n (List.mem_map.mpr ⟨p,List.mem_cons_self,z⟩)
   rw [List.map_cons,eqv_false (kk p List.mem_cons_self) hk hp,ih (λq h=>kk q (List.mem_cons_of_mem _ h)) λh=>n (by rw [List.map_cons];exact List.mem_cons_of_mem _ h)]
   simp
theorem put_at {k:PyData} (hk:MX.kd k=true) {v:V} {u:Value} (rv:RelV v u):∀ {kvs:List (PyData × V)} {es:List DictEntry} {j:Nat},Paired (KEnt w H) kvs es->(kvs.map (·.1)).Nodup->(kvs.map (·.1))[j]?=some k ->
   Paired (KEnt w H) (kvs.map (λp=>if PyData.eqv p.1 k=true then (p.1,v) else p)) (es.modify j λe=>{ e with val:=u })
 | _,_,j,.nil,_,e=>by simp at e
 | (a,v') :: r,e0 :: es,0,.cons q t,nd,e=>by
   simp at e;subst e
   have nd':(a :: r.map (·.1)).Nodup:=nd
   rw [List.map_cons,eqv_self hk,map_put_id hk (KK.of t) (List.nodup_cons.mp nd').1]
   exact .cons ⟨q.1,q.2.1,q.2.2.1,q.2.2.2.1,rv⟩ t
 | (a,v') :: r,e0 :: es,j+1,.cons q t,nd,e=>by
   have nd':(a :: r.map (·.1)).Nodup:=nd
   obtain ⟨n1,n2⟩:=List.nodup_cons.mp nd'
   have e':(r.map (·.1))[j]?=some k:=by simpa using e
   have ne:a≠k:=λz=>n1 (by rw [z];exact List.mem_of_getElem? e')
   rw [List.map_cons,eqv_false q.1 hk ne]
   exact .cons q (put_at hk rv t n2 e')
theorem any_of {k:PyData} (hk:MX.kd k=true) {kvs:List (PyData × V)} {j:Nat} (e:(kvs.map (·.1))[j]?=some k):(kvs.any λp=>PyData.eqv p.1 k)=true:=by
 obtain ⟨p,hp,z⟩:=List.mem_map.mp (List.mem_of_getElem? e)
 exact List.any_eq_true.mpr ⟨p,hp,by rw [z];exact eqv_self hk⟩
theorem keys_putD {k:PyData} {v:V} {kvs:List (PyData × V)}:(kvs.map (λp=>if PyData.eqv p.1 k=true then (p.1,v) else p)).map (·.1)=kvs.map (·.1):=by
 rw [List.map_map]
 congr 1
 funext p
 show (if PyData.eqv p.1 k=true then (p.1,v) else p).1=p.1
 split<;>rfl
theorem len_putD (kvs:List (PyData × V)) (k:PyData) (v:V):(putD kvs k v).length <= kvs.length+1:=by
 unfold putD
 split
 · rw [List.length_map];omega
 · rw [List.length_append];exact Nat.le_refl _
end
section
variable {w:World} {H H':Hp} {a:Addr} {kvs:List (PyData × V)}
theorem KEnt.keep (ht:∀ b vs,H b=some (.tup vs)->H' b=some (.tup vs)) {p:PyData × V} {e:DictEntry} (q:KEnt w H p e):KEnt w H' p e:=by
 obtain ⟨k1,k2,k3,⟨x,rx,dx⟩,k5⟩:=q
 exact ⟨k1,k2,k3,⟨x,rx,DV.keep ht _ _ k1 dx⟩,k5⟩
theorem MD.keep (m:MD w H a kvs) (ha:H' a=H a) (ht:∀ b vs,H b=some (.tup vs)->H' b=some (.tup vs)):MD w H' a kvs:=by
 obtain ⟨es,ep,h1,h2,h3⟩:=m
 exact ⟨es,ep,by rw [ha];exact h1,Paired.mapP h2 λ_ _ q=>q.keep ht,h3⟩
end
section
variable {X:Cx} {pins:List (Addr × Obj)} {σ:St} {H:Hp} {s:Shared} {a:Addr} {kvs:List (PyData × V)} {k:PyData} {y v d:V} {u r:Value} {A:Around} {E:Value->Shared->Prop}
theorem in1u {A:Around} (hu:A.units+64 < cLine):A.in1.units+8 < cLine:=by
 rw [Around.in1_units];omega
theorem md_get2 {Q:Value->Shared->Prop} (hu:A.units+64 < cLine) (I:Inv X pins σ H s) (m:MD X.w H a kvs) (hk:KeyV H k y) (ry:RelV y u) (rd:RelV d r) (h:∀ w' s',Inv X pins σ H s'->RelV ((lookD kvs k).getD d) w'->Q w' s') :
   wpAny (model X.prog X.w) A (call (.builtin "dict.get") [.ref a,u,r]) Q E s:=by
 obtain ⟨es,ep,h1,h2,h3,h4⟩:=m
 obtain ⟨hs,hme⟩:=DObj.of I.hok h1
 have hm:=hme.es
 refine call_meetsIn PySem.F.slot_dict_get hm.typeIs PySem.F.entry_dict_get (PySem.F.args_dict_get_3 _ _ _) (MX.meets_D a u r hs) ⟨in1u hu,k,_,es,ask_of I.hok hk ry,hm,ents_of I.hok h2,h3,λn tk=>h _ _ (I.tok _) ?_,λj e hj he tk=>h _ _ (I.tok _) ?_⟩
 · rw [lookD_no hk.1 (KK.of h2) n];exact rd
 · obtain ⟨v',g1,g2⟩:=lookD_at hk.1 (KK.of h2) h3 hj
   rw [g2]
   obtain ⟨p,e1,e2⟩:=MX.f2_get h2 j e he
   rw [g1] at e1;cases e1
   exact e2.2.2.2.2
theorem md_put {Q:Unit->Shared->Prop} (hu:A.units+64 < cLine) (I:Inv X pins σ H s) (m:MD X.w H a kvs) (hl:kvs.length < sizeLine) (hk:KeyV H k y) (ry:RelV y u) (rv:RelV v r)
   (h:∀ H' s',Inv X pins σ H' s'->(∀ b,b≠a->H' b=H b)->MD X.w H' a (putD kvs k v)->Q () s'):wpAny (model X.prog X.w) A (setItem (.ref a) u r) Q E s:=by
 obtain ⟨es,ep,h1,h2,h3,h4⟩:=m
 obtain ⟨hs,hme⟩:=DObj.of I.hok h1
 have hm:=hme.es
 have kk:=KK.of h2
 have hz:es.length <= sizeLine:=by rw [← Paired.keys h2];omega
 refine MX.put_D (in1u hu) (ask_of I.hok hk ry) hm (ents_of I.hok h2) h3 hz λh' tk es' hm' hsb hor=>?_
 obtain ⟨ep',hm2⟩:=hm'.ep
 have I':Inv X pins σ (upd H a (DObj a es' ep')) { s with heap:=h',toks:=tk }:=d_write I (by rw [h1];exact True.intro) hsb (let ⟨o,e,_⟩:=hm2;⟨o,e⟩) (DObj.ok hs hm2)
 refine h _ _ I' (λb hb=>upd_ne hb) ⟨es',ep',upd_same,?_⟩
 have ht:∀ b vs,H b=some (.tup vs)->upd H a (DObj a es' ep') b=some (.tup vs):=λb vs e=>by
   rw [upd_ne (ne_of e h1 (by intro z;cases z))];exact e
 rcases hor with ⟨n,rfl⟩ | ⟨j,hj,rfl⟩
 · rw [putD_no hk.1 kk n]
   refine ⟨?_,?_,by rw [List.length_append];show kvs.length+1 <= sizeLine;omega⟩
   · refine Paired.snoc (Paired.mapP h2 λ_ _ q=>q.keep ht) ⟨hk.1,hk.2.1,rfl,⟨y,ry,DV.keep ht _ _ hk.1 hk.2.2.1⟩,rv⟩
   · rw [List.map_append]
     exact nd_snocP h3 n
 · have e:putD kvs k v=kvs.map (λp=>if PyData.eqv p.1 k=true then (p.1,v) else p):=by
     unfold putD;rw [if_pos (any_of hk.1 hj)]
   rw [e]
   exact ⟨Paired.mapP (put_at hk.1 rv h2 h3 hj) λ_ _ q=>q.keep ht,by rw [keys_putD];exact h3,by rw [List.length_map];exact h4⟩
where
 nd_snocP {l:List PyData} {k:PyData} (hn:l.Nodup) (hk:k ∉ l):(l++[k]).Nodup:=by
   rw [List.nodup_append]
   exact ⟨hn,by simp,λx hx y hy=>by
     rw [List.mem_singleton.mp hy];exact λz=>hk (z ▸ hx)⟩
end
end L2

namespace L2
open PySem PySem.Spec PyProof.Rows
def tMNew:TE:=λ_ H Q=>∀ p,H p=none->Q (.ref p) (upd H p (DObj p [] 0))
theorem MD.nil {w:World} {H:Hp} {p:Addr}:MD w (upd H p (DObj p [] 0)) p []:=⟨[],0,upd_same,.nil,List.nodup_nil,Nat.zero_le _⟩
def sMPut (w:World) (td ty tv:TE):TS:=λD σ H=>tv σ H λv H1=>td σ H1 λx H2=>ty σ H2 λy H3=>∃ a kvs k,x=.ref a/\MD w H3 a kvs/\kvs.length < sizeLine/\KeyV H3 k y /\
 ∀ H4,(∀ b,b≠a->H4 b=H3 b)->MD w H4 a (putD kvs k v)->D.nx σ H4
def tMGet2 (w:World) (td ty tx:TE):TE:=λσ H Q=>td σ H λx H1=>∃ a,x=.ref a/\(∃ kvs,MD w H1 a kvs)/\ty σ H1 λy H2=>tx σ H2 λz H3=>∃ kvs k,MD w H3 a kvs/\KeyV H3 k y/\Q ((lookD kvs k).getD z) H3
def tMItem (w:World) (td ty:TE):TE:=λσ H Q=>td σ H λx H1=>ty σ H1 λy H2=>∃ a kvs k v,x=.ref a/\MD w H2 a kvs/\KeyV H2 k y/\lookD kvs k=some v/\Q v H2
section
variable {X:Cx} {o i e f value:Expr} {pos pos' apos cpos:Pos} {td ty tv tx:TE}
theorem pe_mnew:PE X (.Dict [] [] pos) tMNew:=λpins s σ H Q I h =>
 wpAny_Dict_empty ⟨.ref s.heap.objs.size,_,I.laid (a:=s.heap.objs.size) (o:=DObj s.heap.objs.size [] 0) (t':=s.toks) (λ_ _ q=>Heap.get?_push_of_some _ q) (Nat.le_refl _)
   (DObj.ok (beq_eq_false_iff_ne.mpr (Ne.symm (Nat.ne_of_lt I.big))) ⟨_,Heap.get?_push_size _ rfl,⟨rfl,rfl,rfl⟩,rfl⟩),rfl,h _ (I.hok.fresh (Nat.le_refl _))⟩
theorem ps_mput (hu:X.A.units+64 < cLine) (ho:PE X o td) (hi:PE X i ty) (hv:PE X value tv) (hs:swapsWith value (some (.Subscript o i pos')) pos.line X.env=pure false) :
   PS X (.Assign [.Subscript o i pos'] value pos) (sMPut X.w td ty tv):=by
 intro pins s σ H D I h
 refine wpAny_Assign_Subscript (thn (hv pins s σ H _ I h) λr s1 ⟨v,H1,I1,rv,q1⟩=>thn (ho pins s1 σ H1 _ I1 q1) λu s2 ⟨x,H2,I2,rx,q2⟩=>thn (hi pins s2 σ H2 _ I2 q2) λiv s3 ⟨y,H3,I3,ry,a,kvs,k,ex,m,hl,hk,q3⟩=>?_) hs
 subst ex
 obtain rfl:u=Value.ref a:=rx
 exact md_put hu I3 m hl hk ry rv λH4 s4 I4 g1 g2=>⟨σ,H4,I4,q3 H4 g1 g2⟩
theorem pe_mget2 (hu:X.A.units+64 < cLine) (ho:PE X o td) (he:PE X e ty) (hf:PE X f tx) (m:M2 X o "get" apos e f cpos):PE X (.Call (.Attribute o "get" apos) [e,f] [] cpos) (tMGet2 X.w td ty tx):=by
 intro pins s σ H Q I h
 refine wpAny_Call_method m.base m.few m.line PySem.F.plainAttrs_dict PySem.F.slot_dict_get PySem.F.type_dict_get (thn (ho pins s σ H _ I h) λu s1 ⟨x,H1,I1,rx,a,ex,⟨kv0,es,ep,e1,_⟩,q1⟩=>?_)
 subst ex
 obtain rfl:u=Value.ref a:=rx
 obtain ⟨_,ob,g1,g2,g3⟩:=DObj.of I1.hok e1
 refine ⟨⟨ob,g1,g2.1⟩,λb eb=>by injection eb with eb;subst eb;exact ⟨ob,g1,g2.2.1⟩,?_⟩
 rw [m.trees]
 refine Calls.callWith_builtin rfl (Calls.evalArgs_plain (Calls.spliced_cons (thn (he pins s1 σ H1 _ I1 q1) λiv s2 ⟨y,H2,I2,ry,q2⟩ =>
   Calls.spliced_cons (thn (hf pins s2 σ H2 _ I2 q2) λfv s3 ⟨z,H3,I3,rz,kvs,k,md,hk,q3⟩=>Calls.spliced_nil ?_))))
 exact md_get2 hu I3 md hk ry rz λw' s4 I4 rw'=>⟨_,H3,I4,rw',q3⟩
end
def Itv (K:PySem.W.Frag) (a:Addr) (n:Nat):It :=
 ⟨λi H=>i < n/\∃ xs,SqL K H a xs/\xs.length=n,λi H x H'=>H'=H/\∀ xs,SqL K H a xs->xs[n - 1 - i]?=some x,λi _=>i=n⟩
theorem turn_rev {P:Program} {w:World} {K:PySem.W.Frag} {tg:Expr} (a it:Addr) (n:Nat):Turn P w K tg (Itv K a n) [it] it (λi h=>h.IsRevIter it a ((n:Int) - 1 - i)) where
 mem:=List.mem_singleton.mpr rfl
 obj:=λi h st b hb=>by
   obtain rfl:b=it:=List.mem_singleton.mp hb
   obtain ⟨o,e,c,d⟩:=st
   exact ⟨o,e,λv z=>by rw [d] at z;cases z⟩
 keep:=λi h h' st k=>st.at λo e=>k it (List.mem_singleton.mpr rfl) o e
 item:=by
   intro X hP hw hK hc i pins s σ H E I hf st hg
   subst hP hw hK
   obtain ⟨hi,xs,hq,hn⟩:=hg
   obtain ⟨its,rv,p,hz⟩:=I.list hq
   have hlt:n - 1 - i < xs.length:=by omega
   obtain ⟨u,hu,ru⟩:=rv.get (List.getElem?_eq_getElem hlt)
   obtain ⟨f0,f1,f2,f3,f4,f5⟩:=hf it (List.mem_singleton.mpr rfl)
   have ei:(n:Int) - 1 - i=((n - 1 - i:Nat):Int):=by omega
   rw [ei] at st
   refine wpAny_pyNext_rev_item st p.isList (x:=u) (by simpa using hu) λh' st' sb=>?_
   have I1:Inv X pins σ H { s with heap:=h' }:=I.turned (t':=s.toks) (λb o hb e=>(sb.2 b hb).trans e) f0 f1 f3 f4 f5
   have ej:((n - 1 - i:Nat):Int) - 1=(n:Int) - 1 - ((i+1:Nat):Int):=by omega
   rw [ej] at st'
   obtain ⟨o,e,c,d⟩:=id st'
   exact ⟨u,rfl,go_of (s:={ s with heap:=h' }) e c d (by decide) ⟨_,H,I1,ru,⟨rfl,λys hy=>by rw [I.list_inj hy hq];exact List.getElem?_eq_getElem hlt⟩,st',λb hb=>(hf b hb).1⟩⟩
 done:=by
   intro X hP hw hK hc i pins s σ H E I hf st hg
   subst hP hw hK
   obtain ⟨f0,f1,f2,f3,f4,f5⟩:=hf it (List.mem_singleton.mpr rfl)
   have hg':i=n:=hg
   have ei:(n:Int) - 1 - i=-1:=by omega
   rw [ei] at st
   exact wpAny_pyNext_rev_end (I.ok.hd hc) st λh' eb=>⟨rfl,I.turned (t':=s.toks) (λb o hb e=>eb b o hb e) f0 f1 f3 f4 f5⟩
 self:=λ_ _ _ _ _ st h=>wpAny_pyIter_revIter st h
def iRev (K:PySem.W.Frag) (ta:TA):TI:=λσ H R=>ta σ H λvs H1=>∃ a xs,vs=[.ref a]/\SqL K H1 a xs/\R (Itv K a xs.length) H1
section
variable {X:Cx} {tg:Expr}
theorem pi_rev {l:Expr} {ta:TA} {p pos:Pos} (hg:Gl X "reversed") (hm:X.mg "reversed"=none) (ha:PA X [l] ta) (hs:starEach [l] X.env=[(false,eval l X.env)]:=by rfl):PI X tg (.Call (.Name "reversed" p) [l] [] pos) (iRev X.K ta):=by
 intro pins s σ H R I h
 refine Call_ (ld_blt I hg hm bt_reversed (PyProof.Rows.callWith_type1 (thn (ha pos pins s σ H _ I h) λus s1 ⟨vs,H1,I1,r1,a,xs,ev,hq,q⟩=>?_) hs rfl))
 subst ev
 obtain ⟨u,rfl,ru⟩:=vals1 r1
 cases ru
 obtain ⟨its,rv,pl,hz⟩:=I1.list hq
 have hlen:=rv.length
 refine call_reversed_list pl.isList ?_
 have sz:((its.toArray.size:Nat):Int) - 1=(xs.length:Int) - 1 - ((0:Nat):Int):=by simp;omega
 rw [sz]
 have st0:(s1.heap.push (revObj a ((xs.length:Int) - 1 - ((0:Nat):Int)))).IsRevIter s1.heap.objs.size a ((xs.length:Int) - 1 - ((0:Nat):Int)):=⟨_,Heap.get?_push_size _ rfl,rfl,rfl⟩
 refine wpAny_pyIter_revIter (s:={ s1 with heap:=s1.heap.push (revObj a ((xs.length:Int) - 1 - ((0:Nat):Int))) }) st0 ?_
 refine ⟨s1.heap.objs.size,[s1.heap.objs.size],_,_,H1,rfl,I1.kept (t':=s1.toks) λb o e=>Heap.get?_push_of_some _ e,turn_rev a _ xs.length,st0,λb hb=>?_,q⟩
 obtain rfl:b=s1.heap.objs.size:=List.mem_singleton.mp hb
 exact I1.fpOk (Nat.le_refl _) (I1.hok.fresh (Nat.le_refl _))
theorem for_rev {K:PySem.W.Frag} {a:Addr} {xs:List V} {g:TG} {tb:TS} {D:Ends} {σ:St} {H:Hp} (Pv:Nat->St->Hp->Prop) (h0:Pv 0 σ H) (hl:∀ i σ H,i <= xs.length->Pv i σ H->SqL K H a xs)
   (hs:∀ i x σ H,i < xs.length->xs[xs.length - 1 - i]?=some x->Pv i σ H->g x σ H λσ2 H2=>tb { D with nx:=Pv (i+1),ct:=Pv (i+1),bk:=D.nx } σ2 H2) (hd:∀ σ H,Pv xs.length σ H->D.nx σ H) :
   ∃ W:Nat->Nat->St->Hp->Prop,(∃ m,W 0 m σ H)/\∀ i m σ H,W i m σ H->((Itv K a xs.length).stop i H/\D.nx σ H)\/((Itv K a xs.length).go i H/\∃ N:St->Hp->Prop,(∀ σ' H',N σ' H'->∃ m',m' < m/\W (i+1) m' σ' H') /\
     ∀ x H',(Itv K a xs.length).yld i H x H'->g x σ H' λσ2 H2=>tb { D with nx:=N,ct:=N,bk:=D.nx } σ2 H2):=by
 refine ⟨λi m σ H=>Pv i σ H/\i <= xs.length/\m=xs.length - i,⟨_,h0,Nat.zero_le _,rfl⟩,?_⟩
 rintro i m σ H ⟨hp,hi,rfl⟩
 by_cases z:i=xs.length
 · subst z
   exact .inl ⟨rfl,hd σ H hp⟩
 · have hlt:i < xs.length:=by omega
   refine .inr ⟨⟨hlt,xs,hl i σ H hi hp,rfl⟩,Pv (i+1),λσ' H' q=>⟨xs.length - (i+1),by omega,q,hlt,rfl⟩,?_⟩
   rintro x H' ⟨rfl,hx⟩
   exact hs i x σ H' hlt (hx xs (hl i σ H' hi hp)) hp
end
def rNil (K:PySem.W.Frag) (neg:Bool):R2:=λx y H Q=>∃ a b xs,x=.ref a/\y=.ref b/\SqL K H a xs/\SqL K H b []/\Q (.bl (if neg then !xs.isEmpty else xs.isEmpty)) H
section
variable {X:Cx}
end
def Itm (w:World) (a:Addr) (es:List DictEntry) (ep:Nat) (kvs:List (PyData × V)):It :=
 ⟨λi H=>H a=some (DObj a es ep)/\Paired (KEnt w H) kvs es/\i < kvs.length,λi H x H'=>H'=H/\∃ k v,kvs[i]?=some (k,v)/\KeyV H k x,λi H=>H a=some (DObj a es ep)/\kvs.length=es.length/\kvs.length <= i⟩
def TopK (kvs:List (PyData × V)):Prop:=∀ p∈kvs,(∃ t,p.1=.str t)\/∃ ds,p.1=.tuple ds
def iKeys (w:World) (tl:TE):TI:=λσ H R=>tl σ H λx H1=>∃ a es ep kvs,x=.ref a/\H1 a=some (DObj a es ep)/\Paired (KEnt w H1) kvs es/\TopK kvs/\R (Itm w a es ep kvs) H1
end L2

namespace L2
open PySem PySem.Spec PyProof.Rows
theorem nhr:¬ (("held":Str)="rows"):=by decide +kernel
def stF (hd rl:Addr):List (Str × V):=putF "rows" (.ref rl) (putF "held" (.ref hd) [])
theorem stF_held {hd rl:Addr}:(stF hd rl).lookup ("held":Str)=some (.ref hd):=by
 unfold stF
 rw [lookup_putF,if_neg nhr,lookup_putF,if_pos rfl]
theorem stF_rows {hd rl:Addr}:(stF hd rl).lookup ("rows":Str)=some (.ref rl):=by
 unfold stF
 rw [lookup_putF,if_pos rfl]
theorem stF_no {hd rl:Addr} {m:Str} (h1:¬ m="rows") (h2:¬ m="held"):(stF hd rl).lookup m=none:=by
 unfold stF
 rw [lookup_putF,if_neg h1,lookup_putF,if_neg h2]
 all_goals rfl
def sdI:Bool->Int
 | false=>0
 | true=>1
theorem sdI_at {l:Bool->Addr} (b:Bool):atI [V.ref (l false),V.ref (l true)] (sdI b)=some (.ref (l b)):=by
 cases b<;>rfl
theorem KeyV.keep {H H':Hp} {k:PyData} {y:V} (h:KeyV H k y) (ht:∀ b vs,H b=some (.tup vs)->H' b=some (.tup vs)):KeyV H' k y :=
 ⟨h.1,h.2.1,DV.keep ht _ _ h.1 h.2.2.1,h.2.2.2⟩
def Wt (H:Hp) (p:PyData × V) (tv:V):Prop:=∃ t cv,tv=.ref t/\H t=some (.tup [cv,p.2])/\KeyV H p.1 cv
theorem Wt.keep {H H':Hp} {p:PyData × V} {tv:V} (h:Wt H p tv) (ht:∀ b vs,H b=some (.tup vs)->H' b=some (.tup vs)):Wt H' p tv:=by
 obtain ⟨t,cv,e,h1,h2⟩:=h
 exact ⟨t,cv,e,ht _ _ h1,h2.keep ht⟩
def RowAt (H:Hp) (l:Addr) (es:List (PyData × V)):Prop:=∃ ts:List V,H l=some (.lst ts)/\Paired (Wt H) es ts
theorem RowAt.keep {H H':Hp} {l:Addr} {es:List (PyData × V)} (h:RowAt H l es) (hl:∀ o,H l=some o->H' l=some o) (ht:∀ b vs,H b=some (.tup vs)->H' b=some (.tup vs)):RowAt H' l es:=by
 obtain ⟨ts,h1,h2⟩:=h
 exact ⟨ts,hl _ h1,Paired.mapP h2 λ_ _ q=>q.keep ht⟩
theorem pairedLen {α β:Type} {F:α->β->Prop}:∀ {xs:List α} {ys:List β},Paired F xs ys->xs.length=ys.length
 | _,_,.nil=>rfl
 | _,_,.cons _ t=>by rw [List.length_cons,List.length_cons,pairedLen t]
def setR {α:Type} (r:Bool->α) (b:Bool) (v:α):Bool->α:=λc=>if c=b then v else r c
theorem setR_same {α:Type} {r:Bool->α} {b:Bool} {v:α}:setR r b v b=v:=if_pos rfl
theorem setR_ne {α:Type} {r:Bool->α} {b c:Bool} {v:α} (h:c≠b):setR r b v c=r c:=if_neg h
structure Sto (w:World) (C:Addr) (H:Hp) (x hd rl:Addr) (l:Bool->Addr) (M:List (PyData × V)) (r:Bool->List (PyData × V)):Prop where
 ob:∃ dx,H x=some (.ins C dx (stF hd rl))
 me:MD w H hd M
 ro:H rl=some (.lst [.ref (l false),.ref (l true)])
 rw:∀ b,RowAt H (l b) (r b)
 nl:l false≠l true
 nr:∀ b,l b≠rl
def Kp (xs:List Addr) (H H':Hp):Prop:=∀ c o,c ∉ xs->H c=some o->H' c=some o
theorem Kp.refl (xs:List Addr) (H:Hp):Kp xs H H:=λ_ _ _ e=>e
theorem Kp.trans {xs:List Addr} {H H1 H2:Hp} (a:Kp xs H H1) (b:Kp xs H1 H2):Kp xs H H2:=λc o n e=>b c o n (a c o n e)
theorem Kp.mono {xs ys:List Addr} {H H':Hp} (a:Kp xs H H') (h:∀ c,c∈xs->c∈ys):Kp ys H H':=λc o n e=>a c o (λz=>n (h c z)) e
theorem Kp.same {H H':Hp} (a:Same H H') (xs:List Addr):Kp xs H H':=λc o _ e=>a c o e
section
variable {w:World} {C:Addr} {H H':Hp} {x hd rl:Addr} {l:Bool->Addr} {M:List (PyData × V)} {r:Bool->List (PyData × V)}
theorem MD.there (m:MD w H hd M):∃ ee:List DictEntry × Nat,H hd=some (DObj hd ee.1 ee.2):=let ⟨es,ep,h,_⟩:=m;⟨(es,ep),h⟩
theorem MD.keepS (m:MD w H hd M) (ha:∀ o,H hd=some o->H' hd=some o) (ht:∀ b vs,H b=some (.tup vs)->H' b=some (.tup vs)):MD w H' hd M:=by
 obtain ⟨es,ep,h1,h2⟩:=id m
 exact m.keep ((ha _ h1).trans h1.symm) ht
theorem Sto.keep (S:Sto w C H x hd rl l M r) (h:∀ c o,(c=x\/c=hd\/c=rl\/∃ b,c=l b)->H c=some o->H' c=some o) (ht:∀ b vs,H b=some (.tup vs)->H' b=some (.tup vs)):Sto w C H' x hd rl l M r:=by
 obtain ⟨dx,e⟩:=S.ob
 exact ⟨⟨dx,h _ _ (.inl rfl) e⟩,S.me.keepS (λo=>h _ o (.inr (.inl rfl))) ht,h _ _ (.inr (.inr (.inl rfl))) S.ro,λb=>(S.rw b).keep (λo=>h _ o (.inr (.inr (.inr ⟨b,rfl⟩)))) ht,S.nl,S.nr⟩
theorem Sto.same (S:Sto w C H x hd rl l M r) (h:Same H H'):Sto w C H' x hd rl l M r:=S.keep (λc o _ e=>h c o e) λb vs e=>h b _ e
theorem Sto.len (S:Sto w C H x hd rl l M r):M.length <= sizeLine:=let ⟨_,_,_,_,_,h⟩:=S.me;h
def Sto.own (x hd rl:Addr) (l:Bool->Addr) (c:Addr):Prop:=c=x\/c=hd\/c=rl\/c=l false\/c=l true
theorem Sto.there (S:Sto w C H x hd rl l M r) {c:Addr} (h:Sto.own x hd rl l c):∃ o,H c=some o/\(∀ xs,o≠.tup xs):=by
 rcases h with rfl | rfl | rfl | rfl | rfl
 · obtain ⟨dx,e⟩:=S.ob;exact ⟨_,e,λ_ z=>by cases z⟩
 · obtain ⟨es,e⟩:=S.me.there;exact ⟨_,e,λ_ z=>by cases z⟩
 · exact ⟨_,S.ro,λ_ z=>by cases z⟩
 · obtain ⟨ts,e,_⟩:=S.rw false;exact ⟨_,e,λ_ z=>by cases z⟩
 · obtain ⟨ts,e,_⟩:=S.rw true;exact ⟨_,e,λ_ z=>by cases z⟩
theorem Sto.fresh (S:Sto w C H x hd rl l M r) {p:Addr} (hp:H p=none):¬ Sto.own x hd rl l p:=λh=>by
 obtain ⟨o,e,_⟩:=S.there h
 rw [e] at hp;cases hp
end
def drainAll (M:List (PyData × V)) (es:List (PyData × V)):List (PyData × V):=es.foldl (λM p=>putD M p.1 p.2) M
def readV (M es:List (PyData × V)) (k:PyData):V:=match es.reverse.find? (λp=>PyData.eqv p.1 k) with
 | some p=>p.2
 | none=>(lookD M k).getD (.int 0)
def lastW (es:List (PyData × V)) (k:PyData):Option V:=(es.reverse.find? λp=>PyData.eqv p.1 k).map (·.2)
theorem readV_eq (M es:List (PyData × V)) (k:PyData):readV M es k=((lastW es k).or (lookD M k)).getD (.int 0):=by
 unfold readV lastW
 cases es.reverse.find? (λp=>PyData.eqv p.1 k)<;>rfl
theorem look_map {k k':PyData} (h:MX.kd k=true) (h':MX.kd k'=true) (v:V):∀ {M:List (PyData × V)},KK M->lookD (M.map λp=>if PyData.eqv p.1 k'=true then (p.1,v) else p) k=(lookD M k).map λx=>if PyData.eqv k' k=true then v else x
 | [],_=>rfl
 | p :: r,kk=>by
   have ih:=look_map h h' v (M:=r) λq hq=>kk q (List.mem_cons_of_mem _ hq)
   have kp:=kk p List.mem_cons_self
   unfold lookD at ih ⊢
   rw [List.map_cons,List.find?_cons,List.find?_cons]
   have e1:(if PyData.eqv p.1 k'=true then (p.1,v) else p).1=p.1:=by split<;>rfl
   rw [e1]
   cases z:PyData.eqv p.1 k with
   | false=>exact ih
   | true =>
     have pk:=(MX.eqv_iff _ _ kp h).mp z
     show some (if PyData.eqv p.1 k'=true then (p.1,v) else p).2=some (if PyData.eqv k' k=true then v else p.2)
     by_cases y:k'=k
     · subst y
       rw [eqv_self h',z];rfl
     · rw [eqv_false h' h y,pk,eqv_false h h' λq=>y q.symm];rfl
theorem look_put {M:List (PyData × V)} {k k':PyData} (kk:KK M) (h':MX.kd k'=true) (h:MX.kd k=true) (v:V):lookD (putD M k' v) k=if PyData.eqv k' k=true then some v else lookD M k:=by
 by_cases n:k'∈M.map (·.1)
 · obtain ⟨p,hp,e⟩:=List.mem_map.mp n
   have ha:(M.any λp=>PyData.eqv p.1 k')=true:=List.any_eq_true.mpr ⟨p,hp,by rw [e];exact eqv_self h'⟩
   unfold putD
   rw [if_pos ha,look_map h h' v kk]
   by_cases y:k'=k
   · subst y
     rw [eqv_self h']
     have:(lookD M k').isSome=true:=by
       unfold lookD
       rw [Option.isSome_map,List.find?_isSome]
       exact ⟨p,hp,by rw [e];exact eqv_self h'⟩
     cases z:lookD M k' with
     | none=>rw [z] at this;cases this
     | some x=>rfl
   · rw [eqv_false h' h y]
     cases lookD M k<;>rfl
 · rw [putD_no h' kk n]
   unfold lookD
   rw [List.find?_append,List.find?_cons]
   by_cases y:k'=k
   · subst y
     have z:=lookD_no h' kk n
     unfold lookD at z
     rw [Option.map_eq_none_iff] at z
     rw [z,eqv_self h'];rfl
   · rw [eqv_false h' h y]
     cases M.find? (λp=>PyData.eqv p.1 k)<;>rfl
theorem KK.put {M:List (PyData × V)} {k:PyData} (kk:KK M) (h:MX.kd k=true) (v:V):KK (putD M k v):=by
 unfold putD
 split
 · intro p hp
   obtain ⟨q,hq,rfl⟩:=List.mem_map.mp hp
   have:=kk q hq
   split<;>exact this
 · intro p hp
   rcases List.mem_append.mp hp with z | z
   · exact kk p z
   · rw [List.mem_singleton.mp z];exact h
theorem KK.nil:KK ([]:List (PyData × V)):=λ_ h=>by cases h
mutual
theorem keyBack {H:Hp} {D:Addr} {o:HO} (hD:H D=none) (ho:∀ xs,o≠.tup xs):∀ {k:PyData} {y:V},MX.kd k=true->DV (upd H D o) k y->DV H k y
 | .int _,_,_,e=>e
 | .str _,_,_,e=>e
 | .tuple ds,_,h,⟨a,vs,e,ha,hv⟩=>by
   have ne:a≠D:=λz=>by
     rw [z,upd_same] at ha
     exact ho vs (Option.some.inj ha)
   exact ⟨a,vs,e,by rw [upd_ne ne] at ha;exact ha,keysBack hD ho h hv⟩
 | .none,_,h,_=>by cases h
 | .bool _,_,h,_=>by cases h
 | .list _,_,h,_=>by cases h
 | .dict _,_,h,_=>by cases h
theorem keysBack {H:Hp} {D:Addr} {o:HO} (hD:H D=none) (ho:∀ xs,o≠.tup xs):∀ {ds:List PyData} {vs:List V},MX.kds ds=true->DVs (upd H D o) ds vs->DVs H ds vs
 | [],_,_,e=>e
 | d :: ds,_,h,⟨v,r,e,h1,h2⟩=>by
   have h':(MX.kd d && MX.kds ds)=true:=h
   rw [Bool.and_eq_true] at h'
   exact ⟨v,r,e,keyBack hD ho h'.1 h1,keysBack hD ho h'.2 h2⟩
end
end L2

namespace L2
open PySem PySem.Spec PyProof.Rows
theorem mem_of_lookup {β:Type} {y:Str} {c:β}:∀ {l:List (Str × β)},l.lookup y=some c->(y,c)∈l
 | [],h=>by cases h
 | (k,v) :: r,h=>by
   rw [List.lookup_cons] at h
   cases e:y == k with
   | true =>
     rw [e] at h
     cases h
     rw [beq_iff_eq.mp e]
     exact List.mem_cons_self
   | false =>
     rw [e] at h
     exact List.mem_cons_of_mem _ (mem_of_lookup h)
def cxComp (X:Cx) (scope:Scope) (cl:List (Str × Addr)) (C:Addr) (x:Str) (N':List Str) (s₃:Shared) (H₃:Hp) (pins:List (Addr × Obj)) (ex:List Addr) (E':Value->Shared->Prop):Cx :=
 { X with N:=N',s₀:=s₃,H₀:=H₃,env:=compEnvC scope cl C X.env,outer:=X.stack,stack:=X.stack,ex:=ex,fn:=λy=>y == x,pn:=X.pn++pins,xe:=E' }
structure CompOk (X:Cx) (scope:Scope) (cl:List (Str × Addr)) (x:Str):Prop where
 kind:scope.kind=.function
 clos:closureFor scope X.env=pure cl
 nocell:∀ y∈scope.names,y.2≠.cell
 names:∀ y∈scope.names,y.2=.local->scope.names.lookup y.1=some .local
 xloc:scope.names.lookup x=some .local
 sub:∀ p∈cl,X.env.cells.lookup p.1=some p.2
 has:∀ p∈scope.names,p.2=.free->∃ c,cl.lookup p.1=some c
 nox:cl.lookup x=none
def PTs (X:Cx) (ifs:List Expr) (t:TT):Prop :=
 ∀ (pins:List (Addr × Obj)) (s:Shared) (σ:St) (H:Hp) (Q:Bool->Hp->Prop),Inv X pins σ H s->t σ H Q ->
   wpAny (model X.prog X.w) X.A (forIn ifs true λc r=>if r=true then do let ok ← isTrue c X.env (eval c X.env);pure (ForInStep.yield ok) else pure (ForInStep.yield r)) (TP X pins σ Q) X.xe s
theorem pts_one {X:Cx} {c:Expr} {t:TT} (h:PT X c t):PTs X [c] t:=λpins s σ H Q I q=>wpAny_tests_one (h pins s σ H Q I q)
def capt (σ:St) (js:List Nat):St:=js.map λj=>(σ[j]?).getD none
def tComp (wi:TI) (js:List Nat) (tc:TT) (te:TE):TE:=λσ H Q=>wi σ H λJ H1=>∀ D,H1 D=none->∃ W:Nat->Nat->List V->Hp->Prop,(∃ m,W 0 m [] (upd H1 D (.lst []))) /\
 ∀ i m ys H2,W i m ys H2->H2 D=some (.lst ys)/\ys.length < sizeLine/\((J.stop i H2/\Q (.ref D) H2)\/(J.go i H2/\∀ x H3,J.yld i H2 x H3 ->
   tc (some x :: capt σ js) H3 λb H4=>if b=true then te (some x :: capt σ js) H4 λy H5=>H5 D=some (.lst ys)/\∃ m',m' < m/\W (i+1) m' (ys++[y]) (upd H5 D (.lst (ys++[y])))
     else ∃ m',m' < m/\W (i+1) m' ys H4))
section
variable {X:Cx} {scope:Scope} {cl:List (Str × Addr)} {x:Str} {N':List Str}
theorem relabel_mem {names:List (Str × NameKind)} {env:Env} {y:Str} {k:NameKind} (h:(names.map λ(n,k)=>if (k == NameKind.free && env.scope.kind == .function && env.kindOf n == some .cell) then (n,NameKind.cell) else (n,k)).lookup y=some k) (hk:k=.cell\/k=.free) (hn:∀ p∈names,p.2≠.cell):∃ p∈names,p.1=y/\p.2=.free:=by
 obtain ⟨⟨n,k0⟩,hp,e⟩:=List.mem_map.mp (mem_of_lookup h)
 dsimp only at e
 split at e
 · rename_i hc
   injection e with e1 e2
   refine ⟨_,hp,e1,?_⟩
   rw [Bool.and_eq_true,Bool.and_eq_true] at hc
   exact beq_iff_eq.mp hc.1.1
 · injection e with e1 e2
   refine ⟨_,hp,e1,?_⟩
   rcases hk with rfl | rfl
   · exact absurd e2 (hn _ hp)
   · exact e2
theorem cxComp_ok {pins:List (Addr × Obj)} {σ:St} {H₃:Hp} {s₃:Shared} {ex:List Addr} {E':Value->Shared->Prop} (O:CompOk X scope cl x) (I:Inv X pins σ H₃ s₃) (hf:∀ b∈ex,FpOk X pins H₃ b/\b < s₃.heap.objs.size) :
   (cxComp X scope cl s₃.heap.objs.size x N' s₃ H₃ pins ex E').Ok where
 mod:=I.ok.mod
 kind:=O.kind
 glob:=I.ok.glob
 blt:=I.ok.blt
 above:=Nat.le_refl _
 inj:=λy z c h1 h2=>I.ok.inj y z c (O.sub _ (mem_of_lookup h1)) (O.sub _ (mem_of_lookup h2))
 has:=λy h=>by
   have h':∃ k,(relabel scope X.env).names.lookup y=some k/\(k=.cell\/k=.free):=by
     rcases h with h | h
     · exact ⟨_,h,.inl rfl⟩
     · exact ⟨_,h,.inr rfl⟩
   obtain ⟨k,e,hk⟩:=h'
   obtain ⟨p,hp,rfl,e2⟩:=relabel_mem e hk O.nocell
   exact O.has p hp e2
 cab:=λy c h1 h2=>by
   have:y=x:=beq_iff_eq.mp h1
   subst this
   have h2':cl.lookup y=some c:=h2
   rw [O.nox] at h2';cases h2'
 hd:=I.ok.hd
 frames:=I.ok.frames
 stk:=.inl rfl
 exf:=λb hb=>⟨Nat.ne_of_lt (hf b hb).2,λy c e=>(hf b hb).1.2.2.2.2.1 y c (O.sub _ (mem_of_lookup e))⟩
 bs:=I.bs
 bsz:=Nat.le_trans I.ok.bsz I.sz
 noex:=λb o e hb=>by
   obtain ⟨_,_,_,h4,_⟩:=(hf b hb).1
   rcases h4 with z | z
   · exact I.ok.noex b o e z
   · have g1:b < X.base.objs.size:=Heap.lt_size e
     exact absurd (Nat.lt_of_lt_of_le g1 (Nat.le_trans I.ok.bsz z)) (Nat.lt_irrefl _)
 exfs:=λb hb z=>by
   obtain ⟨_,h2,h3,_⟩:=(hf b hb).1
   rcases List.mem_cons.mp (I.stkSub b z) with q | q
   · exact h2 q
   · exact h3 q
 funs:=I.stack
 frf:=I.stkFree
theorem Inv.block {pins:List (Addr × Obj)} {σ σ':St} {H₃ H':Hp} {s₃ s':Shared} {ex:List Addr} {E':Value->Shared->Prop} {h':Heap} (I:Inv X pins σ H₃ s₃) (hf:∀ b∈ex,FpOk X pins H₃ b)
   (I':Inv (cxComp X scope cl s₃.heap.objs.size x N' s₃ H₃ pins ex E') [] σ' H' s') (hs:Heap.SameBut s₃.heap.objs.size s'.heap h'):Inv X pins σ H' { s' with heap:=h' }:=by
 have ne:∀ b o,s₃.heap.get? b=some o->b≠s₃.heap.objs.size:=λb o e=>Nat.ne_of_lt (Heap.lt_size e)
 have fr:H' s₃.heap.objs.size=none:=I'.free
 have hok:HOk X.prog X.w H' h':=λa o e=>by
   refine (I'.hok a o e).stay (λb u hb q=>(hs.2 b ?_).trans q) (λ_ q=>q) λ_ _ q=>q
   rintro rfl
   rcases hb with z | z
   · rw [← z,fr] at e;cases e
   · rw [fr] at z;cases z
 have u:Un (frs X.stack) ex H₃ H' s₃.heap h':=by
   obtain ⟨k1,k2,k3,k4,k5,k6,k7⟩:=I'.base
   refine ⟨λb o q n hb hx=>(hs.2 b (ne b o q)).trans (k1 b o q n hb hx),λb o q n hb hx=>?_,k3,λb o q hx=>?_,k5,k6,k7⟩
   · obtain ⟨sl,e⟩:=k2 b o q n hb hx
     exact ⟨sl,(hs.2 b (ne b o q)).trans e⟩
   · obtain ⟨o',e⟩:=k4 b o q hx
     exact ⟨o',(hs.2 b (ne b o q)).trans e⟩
 exact I.call' (s':={ s' with heap:=h' }) I'.os u hok I'.bare λb hb=>⟨(hf b hb).2.2.2.1,(hf b hb).2.1,(hf b hb).2.2.2.2.1,(hf b hb).2.2.2.2.2⟩
theorem Inv.enter {pins:List (Addr × Obj)} {σ:St} {H₃:Hp} {s₃:Shared} {ex:List Addr} {E':Value->Shared->Prop} {caps:List Str} {js:List Nat} {h₁:Heap} {tk:Nat} (O:CompOk X scope cl x) (I:Inv X pins σ H₃ s₃)
   (hf:∀ b∈ex,FpOk X pins H₃ b/\b < s₃.heap.objs.size) (hcap:∀ y∈caps,∃ c,cl.lookup y=some c) (hjs:Paired (λ(y:Str) (j:Nat)=>X.N[j]?=some y/\(X.env.scope.names.lookup y=some .cell\/X.env.scope.names.lookup y=some .free)) caps js)
   (hkc:∀ y∈caps,(relabel scope X.env).names.lookup y=some .cell\/(relabel scope X.env).names.lookup y=some .free)
   (hn:h₁.Ns s₃.heap.objs.size λ_=>none) (hk:∀ b o,s₃.heap.get? b=some o->h₁.get? b=some o) :
   Inv (cxComp X scope cl s₃.heap.objs.size x (x :: caps) s₃ H₃ pins ex E') [] (none :: capt σ js) H₃ { s₃ with heap:=h₁,toks:=tk }:=by
 have hlen:caps.length=js.length:=Paired.length hjs
 obtain ⟨m0,hm0,hl0⟩:=I.loc
 refine ⟨cxComp_ok O I hf,rfl,I.bare,Un.kept hk,⟨_,hn,λi y v e1 e2 e3=>?_⟩,λy c e=>?_,I.hok.fresh (Nat.le_refl _),λy c e=>I.freeC y c (O.sub _ (mem_of_lookup e)),λp hp=>?_,I.hok.kept hk,?_⟩
 · cases i with
   | zero=>cases e2
   | succ i =>
     have e1':(x :: caps)[i+1]?=some y:=e1
     rw [List.getElem?_cons_succ] at e1'
     have e2':(none :: capt σ js)[i+1]?=some (some v):=e2
     rw [List.getElem?_cons_succ] at e2'
     obtain ⟨j,ej,hN,hk1⟩:=MX.f2_get' hjs i y e1'
     unfold capt at e2'
     rw [List.getElem?_map,ej] at e2'
     have e3':(σ[j]?).getD none=some v:=by simpa using e2'
     have e4:σ[j]?=some (some v):=by
       cases q:σ[j]? with
       | none=>rw [q] at e3';cases e3'
       | some z=>rw [q] at e3';rw [show z=some v from e3']
     obtain ⟨u,r,l⟩:=hl0 j y v hN e4 (by rcases hk1 with z | z;exact .inr (.inl z);exact .inr (.inr z))
     obtain ⟨c,hc⟩:=hcap y (List.mem_of_getElem? e1')
     refine ⟨u,r,.inr ⟨hkc y (List.mem_of_getElem? e1'),c,hc,?_⟩⟩
     rcases l with ⟨z,_⟩ | ⟨_,c',z1,o,z2,z3⟩
     · have z':X.env.scope.names.lookup y=some .local:=z
       rcases hk1 with q | q<;>(rw [q] at z';cases z')
     · rw [O.sub _ (mem_of_lookup hc)] at z1
       cases z1
       exact ⟨o,hk _ _ z2,z3⟩
 · obtain ⟨v,o,z2,z3⟩:=I.cell y c (O.sub _ (mem_of_lookup e))
   exact ⟨v,o,hk _ _ z2,z3⟩
 · have hp':p∈X.pn++pins:=by simpa [cxComp] using hp
   obtain ⟨g1,g2,g3,g4,g5⟩:=I.pin p hp'
   refine ⟨hk _ _ g1,g2,Nat.ne_of_lt (Heap.lt_size g1),λz=>?_,g5⟩
   rcases List.mem_cons.mp (I.stkSub p.1 z) with q | q
   · exact g3 q
   · exact g4 q
 · show (none :: capt σ js).length=(x :: caps).length
   unfold capt
   rw [List.length_cons,List.length_cons,List.length_map,hlen]
end
def SubCl (env:Env):List (Str × Addr)->Prop
 | []=>True
 | p :: r=>env.cells.lookup p.1=some p.2/\SubCl env r
theorem SubCl.all {env:Env}:∀ {cl:List (Str × Addr)},SubCl env cl->∀ p∈cl,env.cells.lookup p.1=some p.2
 | [],_,p,h=>by cases h
 | q :: r,⟨a,b⟩,p,h=>by
   rcases List.mem_cons.mp h with rfl | h
   · exact a
   · exact SubCl.all b p h
theorem compOk {X:Cx} {scope:Scope} {cl:List (Str × Addr)} {x:Str} (kind:scope.kind=.function) (clos:closureFor scope X.env=pure cl) (nocell:∀ y∈scope.names,y.2≠.cell) (names:∀ y∈scope.names,y.2=.local->scope.names.lookup y.1=some .local)
   (xloc:scope.names.lookup x=some .local) (sub:SubCl X.env cl) (has:(scope.names.all λp=>p.2 != .free || (cl.lookup p.1).isSome)=true) (nox:cl.lookup x=none):CompOk X scope cl x :=
 ⟨kind,clos,nocell,names,xloc,sub.all,λp hp hf=>by
   have h:=List.all_eq_true.mp has p hp
   rw [hf] at h
   have h':(cl.lookup p.1).isSome=true:=by simpa using h
   exact Option.isSome_iff_exists.mp h',nox⟩
end L2

namespace L2
open PySem PySem.Spec PyProof.Rows
def rInD (neg:Bool):R2:=λx y H Q=>∃ d ds,DV H d x/\DV H (.list ds) y/\LayD d/\LayD (.list ds)/\Q (.bl (if neg then !ds.any (λz=>PyData.eqv z d) else ds.any λz=>PyData.eqv z d)) H
section
variable {X:Cx}
end
end L2

namespace L2
open PySem PySem.Spec PyProof.Rows
def tCut (t u:TS):TS:=λD σ H=>∃ B:St->Hp->Prop,t { D with nx:=B } σ H/\∀ σ' H',B σ' H'->u D σ' H'
theorem pss_cut {X:Cx} {st:Stmt} {rest:List Stmt} {t u:TS} (h1:PS X st t) (h2:PSs X rest u):PSs X (st :: rest) (tCut t u):=by
 intro pins s σ H D I h
 obtain ⟨B,h,k⟩:=h
 refine wpAny_execs_cons (thn (h1 pins s σ H { D with nx:=B } I h) λf s1 q=>?_)
 cases f with
 | next =>
   obtain ⟨σ',H',I',q⟩:=q
   exact h2 pins s1 σ' H' D I' (k σ' H' q)
 | ret v=>exact q
 | brk=>exact q
 | cont=>exact q
def tCutT (t:TT):TT:=λσ H Q=>∃ B:Bool->Hp->Prop,t σ H B/\∀ b H',B b H'->Q b H'
end L2
namespace L2
open PySem PySem.Spec PyProof.Rows
mutual
theorem eqv_refl:∀ d:PyData,d.canLay0=true->PyData.eqv d d=true
 | .none,_=>rfl
 | .bool b,_=>by simp [PyData.eqv]
 | .int i,_=>by simp [PyData.eqv]
 | .str t,_=>by simp [PyData.eqv]
 | .list xs,h=>by
   have h':PyData.canLayAll0 xs=true:=by simpa [PyData.canLay0] using h
   simpa [PyData.eqv] using eqvAll_refl xs h'
 | .tuple xs,h=>by
   have h':PyData.canLayAll0 xs=true:=by simpa [PyData.canLay0] using h
   simpa [PyData.eqv] using eqvAll_refl xs h'
 | .dict _,h=>by simp [PyData.canLay0] at h
theorem eqvAll_refl:∀ xs:List PyData,PyData.canLayAll0 xs=true->PyData.eqvAll xs xs=true
 | [],_=>rfl
 | x :: xs,h=>by
   have h':x.canLay0=true/\PyData.canLayAll0 xs=true:=by simpa [PyData.canLayAll0] using h
   simp [PyData.eqvAll,eqv_refl x h'.1,eqvAll_refl xs h'.2]
end
def rNeK2:R2:=λx y H Q=>∃ a b k1 k2 v1 v2 u1 u2 d1 d2 e1 e2,x=.ref a/\y=.ref b/\H a=some (.dK [(k1,v1),(k2,v2)])/\H b=some (.dK [(k1,u1),(k2,u2)])/\¬ k1=k2/\(DV H d1 v1/\DV H d2 v2/\DV H e1 u1/\DV H e2 u2)/\(LayD d1/\LayD d2/\LayD e1/\LayD e2) /\
 Q (.bl (!(PyData.eqv d1 e1 && PyData.eqv d2 e2))) H
end L2

namespace L2
open PySem PySem.Spec PyProof.Rows
def gLst (K:PySem.W.Frag) (n:Nat) (t:TGs):TG:=λv σ H Q=>∃ a xs,v=.ref a/\SqL K H a xs/\xs.length=n/\t xs σ H Q
section
variable {X:Cx} {pos:Pos}
def rIxA (K:PySem.W.Frag):R2:=λx y H Q=>rIxL K x y H Q\/rIxT K x y H Q
def clsV:V->Value
 | .ty c=>.type c
 | .ref a=>.ref a
 | _=>.none
def isClsV:V->Bool
 | .ty _=>true
 | .ref _=>true
 | _=>false
end
def Its (lo st:Int) (n:Nat):It:=⟨λi _=>i < n,λi H x H'=>H'=H/\x=.int (lo+i * st),λi _=>n <= i⟩
def iRng3 (ta:TA):TI:=λσ H R=>ta σ H λvs H1=>∃ i j c:Int,vs=[.int i,.int j,.int c]/\(-(2 ^ 40) <= i/\i < 2 ^ 40/\-(2 ^ 40) <= j/\j < 2 ^ 40/\0 < c/\c < 2 ^ 29)/\∀ n,R (Its i c n) H1
theorem call_len_b {X:Cx}:CallR X (.builtin "len") (λxs H Q=>∃ p ys,xs=[.ref p]/\(SqL X.K H p ys\/SqT X.K H p ys)/\(ys.length <= sizeLine->Q (.int ys.length) H)):=by
 intro pins s σ H xs us Q I r h
 obtain ⟨p,ys,e,hq,q⟩:=h
 have hb:ys.length <= sizeLine:=by
   rcases hq with z | z
   · obtain ⟨its,r',_,hz⟩:=I.list z
     have:=r'.length
     omega
   · obtain ⟨its,r',_,hz⟩:=I.tuple z
     have:=r'.length
     omega
 exact call_len_seq pins s σ H xs us Q I r ⟨p,ys,e,hq,q hb⟩
theorem Same.seqT {K:PySem.W.Frag} {H H':Hp} {a:Addr} {xs:List V} (e:Same H H') (h:SqT K H a xs):SqT K H' a xs:=by
 rcases h with z | z
 · rcases z with z | ⟨o,z⟩
   · exact .inl (.inl (e _ _ z))
   · exact .inl (.inr ⟨o,e _ _ z⟩)
 · exact .inr z
end L2

namespace L2
open PySem PySem.Spec PyProof.Rows
theorem ObjOk.here {P:Program} {w:World} {H:Hp} {h:Heap} {a:Addr} {o:HO} (x:ObjOk P w H h a o):∃ ob,h.get? a=some ob:=by
 cases o with
 | lst xs=>obtain ⟨_,_,_,_,e⟩:=x;exact ⟨_,e⟩
 | tup xs=>obtain ⟨_,_,_,_,e,_⟩:=x;exact ⟨_,e⟩
 | dK kvs=>obtain ⟨_,_,_,_,o,_,_,e,_⟩:=x;exact ⟨_,e⟩
 | dT kvs=>obtain ⟨_,_,_,_,o,_,_,e,_⟩:=x;exact ⟨_,e⟩
 | set S n=>obtain ⟨o,_,_,_,e,_⟩:=x;exact ⟨_,e⟩
 | ins C dx fs=>obtain ⟨_,_,_,e,_⟩:=x;exact ⟨_,e⟩
 | own y=>exact x
 | xd fs=>obtain ⟨_,⟨_,_,_,e,_⟩,_⟩:=x;exact ⟨_,e⟩
 | rng lo hi=>obtain ⟨_,_,_,e⟩:=x;exact ⟨_,e⟩
 | frz ob u=>exact ⟨_,x.1⟩
 | tbl ps=>exact ⟨_,show h.get? a=some _ from x⟩
 | met f y=>exact ⟨_,show h.get? a=some _ from x⟩
 | ext φ=>exact x.2.1
theorem HOk.nothing {P:Program} {w:World} {H:Hp} {h:Heap} {a:Addr} (ok:HOk P w H h) (e:h.get? a=none):H a=none:=by
 cases q:H a with
 | none=>rfl
 | some o =>
   obtain ⟨ob,e'⟩:=(ok a o q).here
   rw [e'] at e;cases e
def Trc (h:Heap) (e T:Addr) (cls fl:Value):Prop :=
 ∃ oe vs oT ts a0,h.get? e=some oe/\(oe.cls=cls/\vs[0]?=some a0)/\oe.data=.fields vs/\vs[1]?=some (.ref T)/\T≠e/\h.get? T=some oT/\oT.data=.fields ts/\ts[3]?=some fl
theorem Trc.on {h B:Heap} {e T:Addr} {cls fl:Value} (x:Trc h e T cls fl) (hB:B.get? T=none):∃ a0,h.TracedAtW B e cls a0 fl:=by
 obtain ⟨oe,vs,oT,ts,a0,h1,h2,h3,h4,h5,h6,h7,h8⟩:=x
 exact ⟨a0,oe,vs,T,oT,ts,h1,h2,h3,h4,hB,h5,h6,h7,h8⟩
def Apt (X:Cx) (pins:List (Addr × Obj)) (H:Hp) (b:Addr):Prop :=
 X.s₀.heap.get? b=none/\H b=none/\b≠X.env.locals/\(∀ x c,X.env.cells.lookup x=some c->c≠b)/\∀ p∈X.pn++pins,p.1≠b
section
variable {X:Cx} {pins:List (Addr × Obj)} {σ:St} {H H':Hp} {s:Shared} {h':Heap}
theorem Inv.apt (I:Inv X pins σ H s) (hx:X.ex=[]) {b:Addr} (e:s.heap.get? b=none) (n:H' b=none):Apt X pins H' b:=by
 refine ⟨?_,n,?_,λx c hc z=>?_,λp hp z=>?_⟩
 · cases q:X.s₀.heap.get? b with
   | none=>rfl
   | some o =>
     obtain ⟨o',e'⟩:=I.base.there b o q (by rw [hx];simp)
     rw [e] at e';cases e'
 · rintro rfl
   obtain ⟨m,⟨o,_,_,ho,_⟩,_⟩:=I.loc
   rw [e] at ho;cases ho
 · obtain ⟨v,o,ho,_⟩:=I.cell x c hc
   rw [z,e] at ho;cases ho
 · have ho:=(I.pin p hp).1
   rw [z,e] at ho;cases ho
theorem Inv.fsIn (I:Inv X pins σ H s):∀ b∈X.fs,b∈frs X.stack:=λb hb=>by
 rcases I.ok.stk with e | ⟨e,f⟩
 · rw [e];exact hb
 · rw [e]
   show b∈List.filterMap (·.frame) (X.env :: X.outer)
   rw [List.filterMap_cons,f]
   exact List.mem_cons_of_mem _ hb
theorem Inv.moved (I:Inv X pins σ H s) (ch:List Addr) (hch:∀ b∈ch,Apt X pins H b) (keep:∀ b o,b ∉ ch->b ∉ frs X.stack->s.heap.get? b=some o->h'.get? b=some o)
   (slot:∀ b o,b∈frs X.stack->s.heap.get? b=some o->∃ sl,h'.get? b=some { o with slots:=sl }):Inv X pins σ H { s with heap:=h' }:=by
 have up:∀ b o,b ∉ ch->s.heap.get? b=some o->∃ sl,h'.get? b=some { o with slots:=sl }:=λb o n e=>by
   by_cases z:b∈frs X.stack
   · exact slot b o z e
   · exact ⟨o.slots,keep b o n z e⟩
 have neL:∀ b o,X.s₀.heap.get? b=some o->b≠X.env.locals:=λb o e=>Nat.ne_of_lt (Nat.lt_of_lt_of_le (Heap.lt_size e) I.ok.above)
 have neC:∀ b o,X.s₀.heap.get? b=some o->b ∉ ch:=λb o e z=>by
   rw [(hch b z).1] at e;cases e
 have nst:∀ b,b≠X.env.locals->b ∉ X.fs->b ∉ frs X.stack:=λb n1 n2 z=>(List.mem_cons.mp (I.stkSub b z)).elim n1 n2
 have cellU:∀ x c,X.env.cells.lookup x=some c->∀ v,s.heap.IsCell c v->h'.IsCell c v:=λx c hc v ⟨o,ho,hd⟩=>by
   obtain ⟨sl,q⟩:=up c o (λz=>(hch c z).2.2.2.1 x c hc rfl) ho
   exact ⟨_,q,hd⟩
 refine ⟨I.ok,I.os,I.bare,⟨λb o e n hb hx=>?_,λb o e n hb hx=>?_,I.base.free,λb o e hx=>?_,I.base.tups,I.base.frzs,I.base.tbls⟩,?_,λx c e=>?_,I.free,I.freeC,λp hp=>?_,λa o e=>?_,I.len⟩
 · exact keep b o (neC b o e) (nst b (neL b o e) hb) (I.base.keep b o e n hb hx)
 · obtain ⟨sl,e1⟩:=I.base.slot b o e n hb hx
   obtain ⟨sl',e2⟩:=slot b _ (I.fsIn b hb) e1
   exact ⟨sl',e2⟩
 · obtain ⟨o',e1⟩:=I.base.there b o e hx
   obtain ⟨sl,e2⟩:=up b o' (neC b o e) e1
   exact ⟨_,e2⟩
 · obtain ⟨m,⟨o,es,ep,ho,r⟩,hl⟩:=I.loc
   obtain ⟨sl,q⟩:=up _ o (λz=>(hch _ z).2.2.1 rfl) ho
   refine ⟨m,⟨_,es,ep,q,r⟩,λi x v e1 e2 e3=>?_⟩
   obtain ⟨u,r',l⟩:=hl i x v e1 e2 e3
   refine ⟨u,r',?_⟩
   rcases l with l | ⟨k,c,e,z⟩
   · exact .inl l
   · exact .inr ⟨k,c,e,cellU x c e _ z⟩
 · obtain ⟨v,z⟩:=I.cell x c e
   exact ⟨v,cellU x c e v z⟩
 · obtain ⟨e,n,ne,nf,d⟩:=I.pin p hp
   exact ⟨keep p.1 p.2 (λz=>(hch p.1 z).2.2.2.2 p hp rfl) (nst p.1 ne nf) e,n,ne,nf,d⟩
 · refine (I.hok a o e).stay (λb u hb q=>keep b u (λz=>?_) (λz=>?_) q) (λ_ q=>q) λ_ _ q=>q
   · have n:=(hch b z).2.1
     rcases hb with rfl | hb
     · rw [n] at e;cases e
     · rw [n] at hb;cases hb
   · have n:=I.stkFree b z
     rcases hb with rfl | hb
     · rw [n] at e;cases e
     · rw [n] at hb;cases hb
abbrev hid (X:Cx) (h:Heap) (e T:Addr):Heap:=PySem.W.hideAll h (e :: T :: frs X.stack)
theorem hid_stays {h:Heap} {e T:Addr}:(hid X h e T).StaysIn h:=λ_ _ q=>PySem.W.of_hideAll _ q
theorem hid_frames {h:Heap} {e T:Addr} (F:h.FunFrames X.base X.stack):h.FunFrames (hid X h e T) X.stack :=
 PySem.W.funFrames_hide F λenv he a ha=>List.mem_cons_of_mem _ (List.mem_cons_of_mem _ (List.mem_filterMap.mpr ⟨env,he,ha⟩))
theorem hid_e {h:Heap} {e T:Addr}:(hid X h e T).get? e=none:=PySem.W.hideAll_none _ List.mem_cons_self
theorem hid_T {h:Heap} {e T:Addr}:(hid X h e T).get? T=none:=PySem.W.hideAll_none _ (List.mem_cons_of_mem _ List.mem_cons_self)
theorem Inv.flown (hx:X.ex=[]) (I:Inv X pins σ H s) {e T:Addr} {cls a0 fl:Value} (aE:Apt X pins H e) (aT:Apt X pins H T) (k1:(hid X s.heap e T).StaysIn h') (k2:h'.FunFrames (hid X s.heap e T) X.stack)
   (k3:h'.TracedAtW (hid X s.heap e T) e cls a0 fl) (k4:s.heap.UpToSlots h'):Inv X pins σ H { s with heap:=h' }/\∃ T',Trc h' e T' cls fl/\Apt X pins H T':=by
 refine ⟨I.moved [e,T] (λb hb=>?_) (λb o n1 n2 q=>?_) (λb o hb q=>?_),?_⟩
 · rcases List.mem_cons.mp hb with rfl | hb
   · exact aE
   · rw [List.mem_singleton.mp hb];exact aT
 · refine k1 b o (PySem.W.hideAll_get _ q λz=>?_)
   rcases List.mem_cons.mp z with z | z
   · exact n1 (by rw [z];exact List.mem_cons_self)
   · rcases List.mem_cons.mp z with z | z
     · exact n1 (by rw [z];simp)
     · exact n2 z
 · obtain ⟨_,o',e',hd⟩:=I.stack.mem hb
   rw [q] at e';cases e'
   exact k4 b o q hd
 · obtain ⟨oe,vs,T',oT,ts,h1,h2,h3,h4,h5,h6,h7,h8,h9⟩:=k3
   refine ⟨T',⟨oe,vs,oT,ts,a0,h1,h2,h3,h4,h6,h7,h8,h9⟩,?_⟩
   by_cases z:T'=T
   · rw [z];exact aT
   · have nf:T' ∉ frs X.stack:=λy=>by
       obtain ⟨_,o',e',hd⟩:=k2.mem y
       rw [h7] at e';cases e'
       exact hd _ h8
     have hn:s.heap.get? T'=none:=by
       cases q:s.heap.get? T' with
       | none=>rfl
       | some o =>
         have:=PySem.W.hideAll_get (e :: T :: frs X.stack) q λy=>by
           rcases List.mem_cons.mp y with y | y
           · exact h6 y
           · rcases List.mem_cons.mp y with y | y
             · exact z y
             · exact nf y
         rw [h5] at this;cases this
     exact I.apt hx hn (I.hok.nothing hn)
end
def CXv (P:Program) (w:World):CXT:=λouter H s E e s'=>∃ (ex T:Addr) (cls:Value) (H':Hp),e=.ref ex/\s'.os=s.os/\AllBare s'.gens/\Un (frs outer) [] H H' s.heap s'.heap/\HOk P w H' s'.heap/\Trc s'.heap ex T cls .none /\
 s.heap.get? ex=none/\s.heap.get? T=none/\H' ex=none/\H' T=none/\E cls none H'
structure Raisy (X:Cx) (E:XK):Prop where
 ex:X.ex=[]
 stk:X.stack=X.env :: X.outer
 frm:X.env.frame=some X.env.locals
 xe:X.xe=λe s'=>wpAny (model X.prog X.w) X.A («leaving» X.env e) (λ_ s''=>CXv X.prog X.w X.outer X.H₀ X.s₀ E e s'') (λe' s''=>CXv X.prog X.w X.outer X.H₀ X.s₀ E e' s'') s'
section
variable {X:Cx} {pins:List (Addr × Obj)} {σ:St} {H H':Hp} {s:Shared} {E:XK}
theorem Inv.out (hx:X.ex=[]) (I:Inv X pins σ H s) {e T:Addr} {cls:Value} (t:Trc s.heap e T cls .none) (aE:Apt X pins H e) (aT:Apt X pins H T) (q:E cls none H):CXv X.prog X.w X.outer X.H₀ X.s₀ E (.ref e) s:=by
 refine ⟨e,T,cls,H,rfl,I.os,I.bare,?_,I.hok,t,aE.1,aT.1,aE.2.1,aT.2.1,q⟩
 have u:=I.base
 rw [hx] at u
 exact u
theorem leave_made (R:Raisy X E) (I:Inv X pins σ H s) {e:Addr} {cls:Value} {args:List Value} {h2:Heap} (M:Heap.MadeExcOf s.heap h2 e cls args) (q:E cls none H):X.xe (.ref e) { s with heap:=h2 }:=by
 rw [R.xe]
 have aE:Apt X pins H e:=I.apt R.ex M.new (I.hok.nothing M.new)
 have I2:Inv X pins σ H { s with heap:=h2 }:=I.kept (t':=s.toks) M.keeps
 obtain ⟨t,he,_,_⟩:=M.there
 have hA:X.A.frames=some (X.env :: X.outer):=by rw [← R.stk];exact I.ok.frames
 have FF:=hid_frames (e:=e) (T:=e) I2.stack
 rw [R.stk] at FF
 refine wpAny_leaving_firstW (base:=hid X h2 e e) (a0:=.ref t) hA FF R.frm he hid_stays hid_e rfl rfl rfl λh' hL=>?_
 obtain ⟨k1,k2,k3,k4⟩:=hL
 rw [← R.stk] at k2
 obtain ⟨I3,T',t3,aT⟩:=I2.flown R.ex aE aE k1 k2 k3 k4
 exact I3.out R.ex t3 aE aT q
theorem Raisy.passes (R:Raisy X E):Passes (CXv X.prog X.w) X E:=by
 intro pins σ H s e s' I h
 obtain ⟨ex,T,cls,H',rfl,os,bare,un,hok,t,n1,n2,n3,n4,q⟩:=h
 have I2:Inv X pins σ H' s':=I.call' (ch:=[]) os un hok bare (λb z=>absurd z (by simp))
 have aE:Apt X pins H' ex:=I.apt R.ex n1 n3
 have aT:Apt X pins H' T:=I.apt R.ex n2 n4
 rw [R.xe]
 have hA:X.A.frames=some (X.env :: X.outer):=by rw [← R.stk];exact I.ok.frames
 have FF:=hid_frames (e:=ex) (T:=T) I2.stack
 rw [R.stk] at FF
 obtain ⟨a0,tw⟩:=t.on (hid_T (X:=X) (h:=s'.heap) (e:=ex) (T:=T))
 refine wpAny_leaving_nextW (base:=hid X s'.heap ex T) (a0:=a0) hA FF R.frm tw hid_stays hid_e λh' hL=>?_
 obtain ⟨k1,k2,k3,k4⟩:=hL
 rw [← R.stk] at k2
 obtain ⟨I3,T',t3,aT'⟩:=I2.flown R.ex aE aT k1 k2 k3 k4
 exact I3.out R.ex t3 aE aT' q
end
def veB:List Value:=[.type "ValueError",.type "Exception",.type "BaseException",.type "object"]
theorem exc_obj {K:PySem.W.Frag} {h:Heap} {C:Addr} (X:K.In h) (q:PySem.W.excIn K C veB "ValueError.__new__"=true) :
   ∃ bm N nm qn bs hd sn sub ab col dd k0 k1 k2 k3 k5 mN,h.get? C=some (excClassObj nm qn C N bs bm hd sn sub ab col dd k0 k1 k2 k3 k5 "ValueError.__new__")/\h.Ns N mN/\mN "__init__"=none/\OwnTail h veB bm:=by
 unfold PySem.W.excIn at q
 split at q
 · rename_i dd cd sl ho
   split at q
   · rename_i C' bm k0 k1 k2 k3 n k5 hm hs
     obtain ⟨nm,bs,mro,ns,qn,hd,sn,sub,ab,col,del⟩:=cd
     simp only [Bool.and_eq_true,beq_iff_eq,Bool.not_eq_true'] at q hm
     have q1:=q.1.1.1.1.1
     have q2:=q.1.1.1.1.2
     have q3:=q.1.1.1.2
     have es:sl=#[k0,k1,k2,k3,some (.builtin n),k5]:=Array.ext' hs
     rw [hm,q3,es,q1,q2] at ho
     have hok:=q.1.2
     refine ⟨bm,ns,nm,qn,bs,hd,sn,sub,ab,col,dd,k0,k1,k2,k3,k5,h.nsMap ns,X _ _ ho,?_,PySem.W.nsMap_none_of_in X hok q.2,PySem.W.tail_of_in X q.1.1.2⟩
     exact Heap.Ns.of_isNs (PySem.W.isNs_of_in X hok)
   · cases q
 · cases q
def tRaise (E:XK) (C:Addr) (t:TA):TS:=λ_ σ H=>t σ H λvs H1=>vs.length <= sizeLine/\E (.ref C) none H1
theorem ps_raise {X:Cx} {E:XK} {x:Str} {C:Addr} {e:Expr} {es:List Expr} {t:TA} {np cpos pos:Pos} (R:Raisy X E) (hh:X.A.handled=none) (hg:Gl X x) (hm:X.mg x=some (.ref C)) (hc:PySem.W.excIn X.K C veB "ValueError.__new__"=true)
   (ha:PA X (e :: es) t) (hdb:(x == ("__debug__":Str))=false:=by decide) (he:starEach (e :: es) X.env=(false,eval e X.env) :: starEach es X.env:=by rfl) (hpl:(backTo cpos (starEach (e :: es) X.env)).any (·.1)=false:=by rfl) :
   PS X (.Raise (some (.Call (.Name x np) (e :: es) [] cpos)) none pos) (tRaise E C t):=by
 intro pins s σ H D I h
 obtain ⟨bm,N,nm,qn,bs,hd,sn,sub,ab,col,dd,k0,k1,k2,k3,k5,mN,hC,hN,hni,TL⟩:=exc_obj I.ok.mod.kin hc
 refine wpAny_Raise_call_subT (C:=C) (nm:=nm) (q:=qn) (N:=N) (bs:=bs) (bm:=bm) (hdct:=hd) (sn:=sn) (sub:=sub) (ab:=ab) (col:=col) (dd:=dd) (k0:=k0) (k1:=k1) (k2:=k2) (k3:=k3) (k5:=k5) PySem.F.excBase_ValueError (mN:=mN)
   (TL.hasType PySem.F.excBase_ValueError.hasBase) hh hpl hni (ld_glob I hg hm ⟨rfl,?_⟩ hdb)
 have hq:=ha cpos pins s σ H _ I h
 have e2:backTo cpos (starEach (e :: es) X.env)=backTo cpos ((false,eval e X.env) :: starEach es X.env):=by rw [he]
 rw [e2] at hq ⊢
 refine Calls.evalArgs_plain (thn hq λus s2 ⟨vs,H2,I2,r,z,q⟩=>?_)
 exact ⟨rfl,by rw [← r.length];exact z,I2.bk _ _ hC,hN.keeps I2.bk,TL.keeps I2.bk,λh' ex M=>leave_made R I2 M q⟩
theorem Fun.okX {P:Program} {w:World} {K:PySem.W.Frag} {mg:Str->Option Value} {base:Heap} {x qual:Str} {st:Stmt} {f:Addr} {fd:FuncData} {N ps:List Str} {k:Nat} {sp:Sp} (F:Fun K x qual st f fd) (S:FnScope N ps (defScope st)) (len:∀ vs H Q E,sp vs H Q E->vs.length=ps.length)
   (hbody:∀ (cdv:Value) (A:Around) (outer:List Env) (s:Shared) (H:Hp) (vs:List V) (Q:VK) (E:XK),Room k (A.deeper (envOfC qual (defScope st) s.heap.objs.size f cdv))->Raisy (cxOf (CXv P w) P w K mg base N qual (defScope st) f cdv A outer s H E) E->sp vs H Q E ->
     ∃ t,PSs (cxOf (CXv P w) P w K mg base N qual (defScope st) f cdv A outer s H E) (defBody st) t/\t { nx:=λ_ H'=>Q .non H',rt:=Q } (start N vs) H):FnOk P w K mg base (CXv P w) (k+1) f fd ps sp:=by
 obtain ⟨oc,od,kV,doc,pm,an,cdv,ct,osl,rfl,lk,hcd⟩:=F.ex
 exact fn_of lk hcd S len λA outer s H vs Q E hr hsp=>hbody cdv A outer s H vs Q E hr ⟨rfl,rfl,rfl,rfl⟩ hsp
abbrev Cx.tryX (X:Cx) (pins:List (Addr × Obj)) (R:St->Value->Hp->Prop):Cx :=
 { X with pn:=X.pn++pins,xe:=λe s'=>∃ (ex T:Addr) (cls:Value) (σ':St) (H':Hp),e=.ref ex/\Inv X pins σ' H' s'/\Trc s'.heap ex T cls .none/\Apt X pins H' ex/\Apt X pins H' T/\R σ' cls H' }
abbrev Cx.inH (X:Cx) (e:Value):Cx:={ X with A:=X.A.mark (some e),calm:=false,xe:=λ_ _=>False }
section
variable {X:Cx} {pins pins':List (Addr × Obj)} {σ:St} {H H':Hp} {s:Shared} {R:St->Value->Hp->Prop} {e:Value}
theorem Cx.Ok.try_ (ok:X.Ok):(X.tryX pins R).Ok:=⟨ok.mod,ok.kind,ok.glob,ok.blt,ok.above,ok.inj,ok.has,ok.cab,ok.hd,ok.frames,ok.stk,ok.exf,ok.bs,ok.bsz,ok.noex,ok.exfs,ok.funs,ok.frf⟩
theorem Cx.Ok.untry (ok:(X.tryX pins R).Ok):X.Ok:=⟨ok.mod,ok.kind,ok.glob,ok.blt,ok.above,ok.inj,ok.has,ok.cab,ok.hd,ok.frames,ok.stk,ok.exf,ok.bs,ok.bsz,ok.noex,ok.exfs,ok.funs,ok.frf⟩
theorem Inv.try_ (I:Inv X pins σ H s):Inv (X.tryX pins R) [] σ H s:=⟨I.ok.try_,I.os,I.bare,I.base,I.loc,I.cell,I.free,I.freeC,λp hp=>I.pin p (by simpa [Cx.tryX] using hp),I.hok,I.len⟩
theorem Inv.untry (I:Inv (X.tryX pins R) pins' σ H s):Inv X pins σ H s:=⟨I.ok.untry,I.os,I.bare,I.base,I.loc,I.cell,I.free,I.freeC,λp hp=>I.pin p (List.mem_append_left _ hp),I.hok,I.len⟩
theorem Cx.Ok.inH (ok:X.Ok):(X.inH e).Ok:=⟨ok.mod,ok.kind,ok.glob,ok.blt,ok.above,ok.inj,ok.has,ok.cab,λz=>(by cases z),ok.frames,ok.stk,ok.exf,ok.bs,ok.bsz,ok.noex,ok.exfs,ok.funs,ok.frf⟩
theorem Inv.inH (I:Inv X pins σ H s):Inv (X.inH e) pins σ H s:=⟨I.ok.inH,I.os,I.bare,I.base,I.loc,I.cell,I.free,I.freeC,I.pin,I.hok,I.len⟩
theorem Inv.outH (ok:X.Ok) (I:Inv (X.inH e) pins σ H s):Inv X pins σ H s:=⟨ok,I.os,I.bare,I.base,I.loc,I.cell,I.free,I.freeC,I.pin,I.hok,I.len⟩
theorem SP.outH {D:Ends} {f:Flow} {s':Shared} (ok:X.Ok) (h:SP (X.inH e) pins D f s'):SP X pins D f s':=by
 cases f with
 | next=>obtain ⟨σ',H',I,q⟩:=h;exact ⟨σ',H',I.outH ok,q⟩
 | brk=>obtain ⟨σ',H',I,q⟩:=h;exact ⟨σ',H',I.outH ok,q⟩
 | cont=>obtain ⟨σ',H',I,q⟩:=h;exact ⟨σ',H',I.outH ok,q⟩
 | ret u=>obtain ⟨v,σ',H',I,r,q⟩:=h;exact ⟨v,σ',H',I.outH ok,r,q⟩
theorem SP.untry {D:Ends} {f:Flow} {s':Shared} (h:SP (X.tryX pins R) pins' D f s'):SP X pins D f s':=by
 cases f with
 | next=>obtain ⟨σ',H',I,q⟩:=h;exact ⟨σ',H',I.untry,q⟩
 | brk=>obtain ⟨σ',H',I,q⟩:=h;exact ⟨σ',H',I.untry,q⟩
 | cont=>obtain ⟨σ',H',I,q⟩:=h;exact ⟨σ',H',I.untry,q⟩
 | ret u=>obtain ⟨v,σ',H',I,r,q⟩:=h;exact ⟨v,σ',H',I.untry,r,q⟩
end
structure Framed (X:Cx):Prop where
 ex:X.ex=[]
 stk:X.stack=X.env :: X.outer
 frm:X.env.frame=some X.env.locals
abbrev TH:=Ends->St->Value->Hp->Prop
def PH (X:Cx) (hs:List ExceptHandler) (t:TH):Prop :=
 ∀ (pins:List (Addr × Obj)) (s:Shared) (σ:St) (H:Hp) (D:Ends) (ex T:Addr) (cls:Value),Inv X pins σ H s->Trc s.heap ex T cls .none->Apt X pins H ex->Apt X pins H T->t D σ cls H ->
   wpAny (model X.prog X.w) X.A (handleBy (.ref ex) X.env hs) (SP X pins D) X.xe s
def tHNil:TH:=λ_ _ _ _=>False
theorem ph_nil {X:Cx}:PH X [] tHNil:=λ_ _ _ _ _ _ _ _ _ _ _ _ h=>h.elim
def tHCons (K:PySem.W.Frag) (C:Value) (tb:TS) (tr:TH):TH:=λD σ cls H=>∃ b,PySem.W.exmOne K cls C=some b/\if b=true then tb D σ H else tr D σ cls H
section
variable {X:Cx}
theorem Trc.ty {M:Model} {h:Heap} {e T:Addr} {cls fl:Value} (t:Trc h e T cls fl):PySem.W.Looks M h (typeOf (.ref e)) cls:=by
 obtain ⟨oe,vs,oT,ts,a0,h1,⟨rfl,_⟩,_⟩:=t
 exact (PySem.W.Looks.ld h1).andThen .now
theorem land {pins:List (Addr × Obj)} {σ:St} {H:Hp} {s:Shared} {ex T:Addr} {cls fl:Value} {A:Around} {Q:Unit->Shared->Prop} {E:Value->Shared->Prop} (hx:X.ex=[]) (I:Inv X pins σ H s) (t:Trc s.heap ex T cls fl) (aE:Apt X pins H ex) (aT:Apt X pins H T)
   (h:∀ s' T',Inv X pins σ H s'->Trc s'.heap ex T' cls .none->Apt X pins H T'->Q () s'):wpAny (model X.prog X.w) A (setFlight (.ref ex) none) Q E s:=by
 obtain ⟨a0,tw⟩:=t.on (hid_T (X:=X) (h:=s.heap) (e:=ex) (T:=T))
 refine wpAny_setFlight_noneW (base:=hid X s.heap ex T) (l:=X.stack) hid_stays (hid_frames I.stack) tw λh' k1 k2 k3 k4=>?_
 obtain ⟨I3,T',t3,aT'⟩:=I.flown hx aE aT k1 k2 k3.at λb o q n=>⟨o.slots,k4 b o q n⟩
 exact h _ T' I3 t3 aT'
def tTry (tb:(St->Value->Hp->Prop)->TS) (th:TH):TS:=λD σ H=>∃ R:St->Value->Hp->Prop,tb R D σ H/\∀ σ' cls H',R σ' cls H'->th D σ' cls H'
theorem ps_try {body:List Stmt} {h₀:ExceptHandler} {hs:List ExceptHandler} {pos:Pos} {tb:(St->Value->Hp->Prop)->TS} {th:TH} (F:Framed X) (hb:∀ pins R,PSs (X.tryX pins R) body (tb R)) (hh:PH X (h₀ :: hs) th):PS X (.Try body (h₀ :: hs) [] [] pos) (tTry tb th):=by
 intro pins s σ H D I h
 obtain ⟨R,h,k⟩:=h
 refine wpAny_Try_except (wpAny_mono (hb pins R [] s σ H D I.try_ h) (λf s1 q=>?_) λe s1 q=>?_)
 · have q':=q.untry
   cases f with
   | next=>exact wpAny_execs_nil q'
   | brk=>exact q'
   | cont=>exact q'
   | ret u=>exact q'
 · obtain ⟨ex,T,cls,σ',H',rfl,I1,t,aE,aT,r⟩:=q
   have hA:X.A.frames=some (X.env :: X.outer):=by rw [← F.stk];exact I.ok.frames
   have FF:=hid_frames (e:=ex) (T:=T) I1.stack
   rw [F.stk] at FF
   obtain ⟨a0,tw⟩:=t.on (hid_T (X:=X) (h:=s1.heap) (e:=ex) (T:=T))
   refine wpAny_noteFrame_onW (base:=hid X s1.heap ex T) (a0:=a0) hA FF F.frm tw hid_stays hid_e λh' hL=>?_
   obtain ⟨k1,k2,k3,k4⟩:=hL
   rw [← F.stk] at k2
   obtain ⟨I2,T2,t2,aT2⟩:=I1.flown F.ex aE aT k1 k2 k3 k4
   exact land F.ex I2 t2 aE aT2 λs3 T3 I3 t3 aT3=>hh pins s3 σ' H' D ex T3 cls I3 t3 aE aT3 (k σ' cls H' r)
end
def tCallX (sp:Sp) (dvs:List V) (R:St->Value->Hp->Prop) (t:TA):TE:=λσ H Q=>t σ H λvs H1=>sp (vs++dvs) H1 Q λcls _ H'=>R σ cls H'
def tMethX (C:Addr) (m:Str) (sp:Sp) (dvs:List V) (R:St->Value->Hp->Prop) (ta:TE) (t:TA):TE:=λσ H Q=>ta σ H λx H1=>∃ a dx fs,x=.ref a/\H1 a=some (.ins C dx fs)/\fs.lookup m=none /\
 t σ H1 λvs H2=>sp (x :: (vs++dvs)) H2 Q λcls _ H'=>R σ cls H'
section
variable {X:Cx} {k:Nat} {f C:Addr} {fd:FuncData} {ps:List Str} {sp:Sp} {dvs:List V} {ds:List Value} {x m:Str} {p pos apos:Pos} {e o:Expr} {es:List Expr} {ta:TE} {t:TA} {pins:List (Addr × Obj)} {R:St->Value->Hp->Prop}
theorem run_fnX {pins':List (Addr × Obj)} {σ:St} {H:Hp} {s:Shared} {Q:VK} {us:List Value} {vs:List V} (hx:X.ex=[]) (F:FnOk X.prog X.w X.K X.mg X.base (CXv X.prog X.w) k f fd ps sp) (hr:Room k X.A) (hb:Binds X.K fd ps ds) (hd:Vals dvs ds)
   (I:Inv (X.tryX pins R) pins' σ H s) (r:Vals vs us) (h:sp (vs++dvs) H Q λcls _ H'=>R σ cls H'):wpAny (model X.prog X.w) X.A (call (.ref f) us) (EP (X.tryX pins R) pins' σ Q) (X.tryX pins R).xe s:=by
 have r2:Vals (vs++dvs) (us++ds):=r.append hd
 have hl:(us++ds).length=ps.length:=r2.length.symm.trans (F.len _ _ _ _ h)
 refine wpAny_call (codeAny_mono (F.run X.A X.stack s H ⟨us,[]⟩ _ _ Q _ hr I.env0 (hb s us I.kIn hl) r2 h) λr s' hq=>?_)
 cases r with
 | error e =>
   obtain ⟨ex,T,cls,H',rfl,os,bare,un,hok,t,n1,n2,n3,n4,q⟩:=hq
   exact ⟨ex,T,cls,σ,H',rfl,(I.call' (ch:=[]) os un hok bare (λb z=>absurd z (by simp))).untry,t,I.untry.apt hx n1 n3,I.untry.apt hx n2 n4,q⟩
 | ok fl =>
   cases fl with
   | ret u=>exact I.after hq
   | next=>exact False.elim hq
   | brk=>exact False.elim hq
   | cont=>exact False.elim hq
theorem pe_methX {pl:Sem Bool} (hx:X.ex=[]) (he:PE (X.tryX pins R) o ta) (c:Cls X.K C) (hm:Meth X.K C m f) (F:FnOk X.prog X.w X.K X.mg X.base (CXv X.prog X.w) k f fd ps sp) (hr:Room k X.A) (hb:Binds X.K fd ps ds) (hd:Vals dvs ds) (ha:PA (X.tryX pins R) (e :: es) t)
   (hst:starEach (e :: es) X.env=(false,eval e X.env) :: starEach es X.env:=by rfl) (hpl:(backTo pos (starEach es X.env)).any (·.1)=false:=by rfl)
   (ht:eval (.Call (.Attribute o m apos) (e :: es) [] pos) X.env=(do
     let ov ← eval o X.env
     standAt apos.atName
     let (f,first) ← holding [ov] (getMethod ov m pl)
     callWith pos f first (backTo pos (starEach (e :: es) X.env)) (backToKw pos (keywordEach [] X.env))):=by rfl) :
   PE (X.tryX pins R) (.Call (.Attribute o m apos) (e :: es) [] pos) (tMethX C m sp dvs R ta t):=by
 intro pins' s σ H Q I h
 refine PySem.W.methodCall_KW (pl:=pl) (thn (he pins' s σ H _ I h) λu s1 z=>?_) ht
 obtain ⟨x,H1,I1,rx,a,dx,fs,ex,ea,l,q⟩:=z
 subst ex
 cases (show u=Value.ref a from rx)
 refine getmeth_ok I1 ea c hm l (PySem.W.callWith_K (first:=[.ref a]) (h₀:=X.base) I.ok.mod.kin hm.kp (thn (ha pos pins' s1 σ H1 _ I1 q) λus s2 z=>?_) hst hpl)
 obtain ⟨vs,H2,I2,r,q2⟩:=z
 exact ⟨I2.kIn,run_fnX (us:=.ref a :: us) (vs:=.ref a :: vs) hx F hr hb hd I2 (.cons rfl r) q2⟩
end
end L2

namespace PySem.W
open PySem PySem.Calls PyProof.Rows Builtin Builtin.ObjectAttr Builtin.Getset_descriptor
structure XCls (K:Frag) (C:Addr):Prop where
 ga:findIn K (.ref C) "__getattribute__"=some (some (.builtin "BaseException.__getattribute__"))
 gt:findIn K (.ref C) "__getattr__"=some none
 cl:findIn K (.ref C) "__class__"=some (some (.builtin "object.__class__"))
 ob:mroIn K C (.type "object")=some true
 be:subIn K (.ref C) (.type "BaseException")=some true
 is:isClsIn K C=true
section
variable {prog:Program} {w:World} {A:Around} {E:Value->Shared->Prop} {h:Heap} {g:Array GenState} {d:Drawn} {t:Nat} {os:OsState} {K:Frag} {x C:Addr} {ox:Obj}
theorem xcl_get {R:Result->Shared->Prop} {tp:Value} (X:K.In h) (Z:XCls K C) (hx:h.get? x=some ox) (hc:ox.cls=.ref C) (hq:R (.ok (.ret (.ref C))) ⟨h,g,d,t,os⟩) :
   codeAny (model prog w) A (.call (.builtin "getset_descriptor.__get__") ⟨[.builtin "object.__class__",.ref x,tp],[]⟩) R ⟨h,g,d,t,os⟩:=by
 have L0:Looks (model prog w) h (typeOf (.ref x)) (.ref C):=hc ▸ (Looks.ld hx).andThen .now
 have L1:=looks_mroIn (M:=model prog w) X Z.ob
 refine codeAny_call_builtin KF.slot_gs.plain KF.entry_gs (KF.slot_gs.check _ _ _ _ _ _ _ _ KF.type_class (KF.args_gs _ _ _) ?_)
 unfold Builtin.«getset_descriptor.__get__» descrGet
 rw [dga_obj]
 refine wpAny_bind (wpAny_pure ?_)
 unfold descrGetter descrCheckInstance descrNameAndClass isInstance
 simp only [KF.owner_class]
 repeat lk
 refine ⟨Code.quiet_builtin _ (by decide +kernel),codeAny_builtin KF.entry_class ?_⟩
 unfold Builtin.«object.__class__» shownTypeOf
 repeat lk
 exact hq
theorem xcl_check {M:Model} {nameV:Value} {Q:Unit->Shared->Prop} (X:K.In h) (Z:XCls K C) (hx:h.get? x=some ox) (hc:ox.cls=.ref C) (hq:Q () ⟨h,g,d,t,os⟩) :
   wpAny M A (checkBuiltinCall "BaseException.__getattribute__" ⟨[.ref x,nameV],[]⟩) Q E ⟨h,g,d,t,os⟩:=by
 have hk:builtinKind "BaseException.__getattribute__"=some .slot:=by decide +kernel
 have hsplit:splitId "BaseException.__getattribute__"=some ("BaseException","__getattribute__"):=by decide +kernel
 have ha:=F.args_bexc_ga (.ref x) nameV
 have LI:Looks M h (isInstance (.ref x) (.type "BaseException")) true:=(show Looks M h (typeOf (.ref x)) (.ref C) from hc ▸ (Looks.ld hx).andThen .now).andThen (looks_subIn X Z.be)
 simp only [checkBuiltinCall,hk,hsplit]
 refine wpAny_bind (LI.at ?_)
 repeat (first | assumption | wp_step)
theorem xcl_entry {tk:Tok} {Q:Fin->Shared->Prop} (X:K.In h) (Z:XCls K C) (hx:h.get? x=some ox) (hc:ox.cls=.ref C) (hq:Q (.done (.ret (.ref C))) ⟨h,g,d,t,os⟩) :
   wpAny (model prog w) A (Builtin.«object.__getattribute__» ⟨[.ref x,.str "__class__" tk],[]⟩) Q E ⟨h,g,d,t,os⟩:=by
 have hT5:(⟨h,g,d,t,os⟩:Shared).TypeIs (.builtin "object.__class__") "getset_descriptor":=F.typeOf_object_class
 have f5:=F.typeOf_object_class
 have f6:=F.slot_gs_get.lookup
 have f7:=F.slot_gs_set.lookup
 have L1:=looks_findIn (M:=model prog w) X Z.cl
 repeat (any_goals (first | assumption | (with_reducible refine wpAny_loadPart_at hx ?_;rw [hc]) | with_reducible refine L1.at ?_ | wp_step))
 refine xcl_get X Z hx hc ?_
 repeat (any_goals (first | assumption | wp_step))
theorem xcl_call {tk:Tok} {R:Result->Shared->Prop} (X:K.In h) (Z:XCls K C) (hx:h.get? x=some ox) (hc:ox.cls=.ref C) (hq:R (.ok (.ret (.ref C))) ⟨h,g,d,t,os⟩) :
   codeAny (model prog w) A (.call (.builtin "BaseException.__getattribute__") ⟨[.ref x,.str "__class__" tk],[]⟩) R ⟨h,g,d,t,os⟩ :=
 codeAny_call_builtin F.excAttr_ValueError.ga.plain F.entry_bexc_ga (xcl_check X Z hx hc (xcl_entry X Z hx hc hq))
theorem xcl_by {tk:Tok} {fill expr:Bool} {Q:Value->Shared->Prop} (X:K.In h) (Z:XCls K C) (hx:h.get? x=some ox) (hc:ox.cls=.ref C) (hq:Q (.ref C) ⟨h,g,d,t,os⟩) :
   wpAny (model prog w) A (getAttrBy (.ref x) (.str "__class__" tk) fill expr) Q E ⟨h,g,d,t,os⟩:=by
 have f3:=F.excAttr_ValueError.ga.bind (.ref x)
 have hx0:(expr && onTheHeap (Value.builtin "BaseException.__getattribute__"))=false:=by cases expr<;>rfl
 have hx2:(Value.builtin "BaseException.__getattribute__" == Value.builtin "object.__getattribute__")=false:=by decide +kernel
 have hx1:(onTheHeap (Value.ref C) && Value.builtin "BaseException.__getattribute__" == Value.builtin "object.__getattribute__")=false:=by rw [hx2];rfl
 have L1:=looks_findIn (M:=model prog w) X Z.ga
 have L2:=looks_findIn (M:=model prog w) X Z.gt
 repeat (any_goals (first | assumption | (with_reducible refine wpAny_loadPart_at hx ?_;rw [hc]) | with_reducible refine L1.at ?_ | with_reducible refine L2.at ?_ | wp_step))
 refine xcl_call X Z hx hc ?_
 repeat (any_goals (first | assumption | wp_step))
theorem xcl_attr {Q:Option Value->Shared->Prop} (X:K.In h) (Z:XCls K C) (hx:h.get? x=some ox) (hc:ox.cls=.ref C) (hq:Q (some (.ref C)) ⟨h,g,d,t+1,os⟩) :
   wpAny (model prog w) A (getAttr? (.ref x) "__class__") Q E ⟨h,g,d,t,os⟩:=by
 unfold getAttr? getAttrBy?
 repeat (any_goals (first | assumption | with_reducible apply xcl_by X Z hx hc | wp_step))
end
theorem kitx_exc {K:Frag} {x C:Addr} (Z:XCls K C):KitX K (.ref x) (.ref C) (λh=>∃ o,h.get? x=some o/\o.cls=.ref C) where
 ty:=λ_ _ _ ⟨_,hx,hc⟩=>hc ▸ (Looks.ld hx).andThen .now
 it:=λ_ _ X _=>by
   obtain ⟨cd,hcd⟩:=Option.isSome_iff_exists.mp Z.is
   unfold clsIn at hcd
   split at hcd
   · rename_i c' d' cd' sl' ho
     intro A' Q' E' s' k q
     unfold isType loadHead
     exact wpAny_bind (wpAny_loadPart (k _ _ (X _ _ ho)) (wpAny_pure q))
   · cases hcd
 ne:=λh tp dd its n sl X htp=>by
   obtain ⟨cd,hcd⟩:=Option.isSome_iff_exists.mp Z.is
   refine Bool.eq_false_iff.mpr λq=>?_
   have e:C=tp:=Value.ref.inj (beq_iff_eq.mp q)
   subst e
   unfold clsIn at hcd
   split at hcd
   · rename_i c' d' cd' sl' ho
     have z:=(X _ _ ho).symm.trans htp
     cases z
   · cases hcd
 ca:=λ{_ _ _ _ _ s} X ⟨_,hx,hc⟩ k=>by
   obtain ⟨h,g,d,t,os⟩:=s
   exact xcl_attr X Z hx hc k
end PySem.W
namespace L2
open PySem PySem.Spec PyProof.Rows
theorem bt_ValueError:bootBuiltins "ValueError"=some (.type "ValueError"):=by decide +kernel
def excO (x C:Addr):HO:=.ext λh=>∃ o vs,h.get? x=some o/\o.cls=.ref C/\o.data=.fields vs
section
variable {X:Cx} {pins:List (Addr × Obj)} {σ:St} {H:Hp} {s:Shared}
theorem excO_ok {P:Program} {w:World} {H':Hp} {h:Heap} {x C:Addr} {o:Obj} {vs:Array Value} (e:h.get? x=some o) (c:o.cls=.ref C) (d:o.data=.fields vs):ObjOk P w H' h x (excO x C) :=
 ⟨⟨o,vs,e,c,d⟩,⟨o,e⟩,λ_ _ ⟨o',vs',e',z⟩ k=>⟨o',vs',k _ e',z⟩⟩
theorem Inv.excAt {x C:Addr} (I:Inv X pins σ H s) (e:H x=some (excO x C)):∃ o,s.heap.get? x=some o/\o.cls=.ref C:=by
 obtain ⟨⟨o,_,h1,h2,_⟩,_⟩:=(show ObjOk X.prog X.w H s.heap x (excO x C) from I.hok x _ e)
 exact ⟨o,h1,h2⟩
theorem Inv.seen {x:Addr} {o:HO} (I:Inv X pins σ H s) (a:Apt X pins H x) (new:ObjOk X.prog X.w (upd H x o) s.heap x o):Inv X pins σ (upd H x o) s:=by
 obtain ⟨a1,a2,a3,a4,a5⟩:=a
 have ne:∀ b u,H b=some u->b≠x:=λb u e z=>by rw [z,a2] at e;cases e
 refine ⟨I.ok,I.os,I.bare,⟨I.base.keep,I.base.slot,λb u e n hx=>?_,I.base.there,λb xs e=>?_,λb u v e=>?_,λb ps e=>?_⟩,I.loc,I.cell,?_,λy c e=>?_,λp hp=>?_,λb u e=>?_,I.len⟩
 · rw [upd_ne (λz=>by rw [z,a1] at e;cases e)];exact I.base.free b u e n hx
 · have q:=I.base.tups b xs e
   rw [upd_ne (ne _ _ q)];exact q
 · have q:=I.base.frzs b u v e
   rw [upd_ne (ne _ _ q)];exact q
 · obtain ⟨more,q⟩:=I.base.tbls b ps e
   exact ⟨more,by rw [upd_ne (ne _ _ q)];exact q⟩
 · rw [upd_ne (Ne.symm a3)];exact I.free
 · rw [upd_ne (a4 y c e)];exact I.freeC y c e
 · obtain ⟨e,n,r⟩:=I.pin p hp
   exact ⟨e,by rw [upd_ne (a5 p hp)];exact n,r⟩
 · by_cases hb:b=x
   · subst hb;rw [upd_same] at e;cases e;exact new
   · rw [upd_ne hb] at e
     refine (I.hok b u e).stay (λ_ _ _ q=>q) (λc q=>?_) λc xs q=>?_
     · rw [upd_ne (ne _ _ q)];exact q
     · rw [upd_ne (ne _ _ q)];exact q
theorem name_goes {A:Around} {E:Value->Shared->Prop} {i:Nat} {x:Str} {pos:Pos} {Q:Unit->Shared->Prop} (I:Inv X pins σ H s) (hN:X.N.Nodup) (hi:X.N[i]?=some x) (hk:X.env.kindOf x=some .local)
   (h:∀ s',Inv X pins (σ.set i none) H s'->Q () s'):wpAny (model X.prog X.w) A (do bindName X.env x .none;unbindBehindTheSuite X.env x pos) Q E s:=by
 obtain ⟨m,hn,hl⟩:=id I.loc
 have hcls:(X.env.scope.kind == .class || (X.env.scope.kind == .module && X.env.locals != X.env.globals))=false:=by rw [I.ok.kind];rfl
 have hiσ:i < σ.length:=by rw [I.len];exact (List.getElem?_eq_some_iff.mp hi).1
 have cne:=I.cne
 refine wpAny_nameGoes_keeps hk hn hcls λh' v hn' hs=>?_
 obtain ⟨oL,_,_,hoL,_⟩:=id hn
 refine h { s with heap:=h',toks:=s.toks+1 } ⟨I.ok,I.os,I.bare,⟨λb o e n hb hx=>?_,λb o e n hb hx=>?_,I.base.free,λb o e hx=>?_,I.base.tups,I.base.frzs,I.base.tbls⟩,⟨_,hn',λj y v' e1 e2 e3=>?_⟩,λy c e=>?_,I.free,I.freeC,λp hp=>?_,λb ob e=>?_,by simpa using I.len⟩
 · exact (hs.2 b (Nat.ne_of_lt (Nat.lt_of_lt_of_le (Heap.lt_size e) I.ok.above))).trans (I.base.keep b o e n hb hx)
 · obtain ⟨sl,e1⟩:=I.base.slot b o e n hb hx
   exact ⟨sl,(hs.2 b (Nat.ne_of_lt (Nat.lt_of_lt_of_le (Heap.lt_size e) I.ok.above))).trans e1⟩
 · obtain ⟨o',e1⟩:=I.base.there b o e hx
   exact ⟨o',(hs.2 b (Nat.ne_of_lt (Nat.lt_of_lt_of_le (Heap.lt_size e) I.ok.above))).trans e1⟩
 · by_cases hj:j=i
   · subst hj
     rw [List.getElem?_set_self hiσ] at e2
     cases e2
   · rw [List.getElem?_set_ne (Ne.symm hj)] at e2
     obtain ⟨u',r',q⟩:=hl j y v' e1 e2 e3
     refine ⟨u',r',?_⟩
     rcases q with ⟨k,e⟩ | ⟨k,c,e,z⟩
     · refine .inl ⟨k,?_⟩
       have:y≠x:=λe=>hj (nodup_ix hN e1 (e ▸ hi))
       simp [this,e]
     · exact .inr ⟨k,c,e,z.sameBut hs (cne y c e)⟩
 · obtain ⟨w',z⟩:=I.cell y c e
   exact ⟨w',z.sameBut hs (cne y c e)⟩
 · obtain ⟨e,n,ne,nf,d⟩:=I.pin p hp
   exact ⟨(hs.2 p.1 ne).trans e,n,ne,nf,d⟩
 · refine (I.hok b ob e).stay (λc w' hc q=>(hs.2 c ?_).trans q) (λ_ q=>q) λ_ _ q=>q
   rintro rfl
   rcases hc with rfl | hc
   · rw [I.free] at e;cases e
   · rw [I.free] at hc;cases hc
def Ends.gone (D:Ends) (i:Nat):Ends:=⟨λσ H=>D.nx (σ.set i none) H,D.rt,λσ H=>D.bk (σ.set i none) H,λσ H=>D.ct (σ.set i none) H⟩
def tHAs (K:PySem.W.Frag) (C:Addr) (i:Nat) (tb:TS) (tr:TH):TH:=λD σ cls H=>∃ b,PySem.W.exmOne K cls (.ref C)=some b/\if b=true then ∃ c,cls=.ref c/\∀ ex,H ex=none->tb (D.gone i) (σ.set i (some (.ref ex))) (upd H ex (excO ex c)) else tr D σ cls H
theorem ph_as {x n:Str} {i:Nat} {C:Addr} {b₀:Stmt} {suite:List Stmt} {np pos:Pos} {rest:List ExceptHandler} {tb:TS} {tr:TH} (F:Framed X) (hN:X.N.Nodup) (hi:X.N[i]?=some n) (hl:X.env.kindOf n=some .local) (hL:Loc X.env.scope n) (hg:Gl X x) (hm:X.mg x=some (.ref C))
   (hb:∀ e,PSs (X.inH e) (b₀ :: suite) tb) (hr:PH X rest tr) (hdb:(x == ("__debug__":Str))=false:=by decide) (hf:X.fn n=true\/X.env.scope.names.lookup n=some .local:=by first | exact .inl rfl | exact .inr rfl | assumption) :
   PH X (.ExceptHandler (some (.Name x np)) (some n) (b₀ :: suite) pos :: rest) (tHAs X.K C i tb tr):=by
 intro pins s σ H D ex T cls I t aE aT h
 obtain ⟨b,hx,h⟩:=h
 refine wpAny_handleBy_cons (codeAny_handlers_test (ld_glob (X:=X.inH (.ref ex)) I.inH hg hm ?_ hdb)) (by intro q;cases q)
 refine (PySem.W.exm_one (M:=model X.prog X.w) I.kIn t.ty hx).at ?_
 cases b with
 | false=>exact hr pins s σ H D ex T cls I t aE aT h
 | true =>
   obtain ⟨c,rfl,h⟩:=h
   refine codeAny_handlers_suite_as (land F.ex I t aE aT λs' T' I' t' aT'=>?_)
   obtain ⟨oe,vs,oT,ts,a0,h1,⟨h2,_⟩,h3,_⟩:=t'
   have I1:=I'.seen (o:=excO ex c) aE (excO_ok h1 h2 h3)
   refine store_ok I1 hN hi hL (v:=.ref ex) rfl (λs2 I2=>?_) hf
   refine wpAny_mono (hb (.ref ex) pins s2 _ _ (D.gone i) I2.inH (h ex aE.2.1)) (λf s3 q=>?_) λ_ _ z=>False.elim z
   have q':=q.outH I.ok
   cases f with
   | next=>obtain ⟨σ',H',I3,q⟩:=q';exact name_goes I3 hN hi hl λs4 I4=>⟨_,_,I4,q⟩
   | brk=>obtain ⟨σ',H',I3,q⟩:=q';exact name_goes I3 hN hi hl λs4 I4=>⟨_,_,I4,q⟩
   | cont=>obtain ⟨σ',H',I3,q⟩:=q';exact name_goes I3 hN hi hl λs4 I4=>⟨_,_,I4,q⟩
   | ret u=>obtain ⟨v,σ',H',I3,r,q⟩:=q';exact name_goes I3 hN hi hl λs4 I4=>⟨_,_,_,I4,r,q⟩
theorem call_isinstX:CallR X (.builtin "isinstance") (λxs H Q=>∃ x c C b,xs=[.ref x,c]/\H x=some (excO x C)/\PySem.W.XCls X.K C/\isClsV c=true/\PySem.W.kitOne X.K (.ref C) (clsV c)=some b/\Q (.bl b) H):=by
 intro pins s σ H xs us Q I r h
 obtain ⟨x,c,C,b,rfl,hx,Z,hc,e,q⟩:=h
 obtain ⟨u,w',rfl,ru,rw⟩:=vals2 r
 cases (show u=Value.ref x from ru)
 obtain ⟨o,h1,h2⟩:=I.excAt hx
 have ew:w'=clsV c:=by
   cases c with
   | ty c=>exact rw
   | ref a=>exact rw
   | _=>cases hc
 rw [ew]
 exact PySem.W.kia_one (PySem.W.kitx_exc Z) I.kIn ⟨o,h1,h2⟩ e (λz=>nomatch z) λtk=>⟨.bl b,H,I.tok _,rfl,q⟩
end
end L2

namespace L2
open PySem PySem.Spec PyProof.Rows
section
variable {X:Cx} {scope:Scope} {cl:List (Str × Addr)} {x:Str} {N':List Str}
theorem ps_compset {px py pos spos:Pos} {yT:Str} {iN:Nat} {iter elt:Expr} {ifs:List Expr} {caps:List Str} {js:List Nat} {wi:TI} {tc:TT} {te:TE} (hN:X.N.Nodup) (hiN:X.N[iN]?=some yT) (hyL:Loc X.env.scope yT)
   (hsw:swapsWith (.ListComp elt [⟨.Name x px,iter,ifs,0⟩] scope pos) (some (.Name yT py)) spos.line X.env=pure true) (hc:X.calm=true) (O:CompOk X scope cl x) (hnd:(x :: caps).Nodup)
   (hcap:∀ y∈caps,∃ c,cl.lookup y=some c) (hjs:Paired (λ(y:Str) (j:Nat)=>X.N[j]?=some y/\(X.env.scope.names.lookup y=some .cell\/X.env.scope.names.lookup y=some .free)) caps js)
   (hkc:∀ y∈caps,(relabel scope X.env).names.lookup y=some .cell\/(relabel scope X.env).names.lookup y=some .free)
   (hi:PI X (.Name x px) iter wi) (ht:∀ C s₃ H₃ pins ex E',PTs (cxComp X scope cl C x (x :: caps) s₃ H₃ pins ex E') ifs tc) (he:∀ C s₃ H₃ pins ex E',PE (cxComp X scope cl C x (x :: caps) s₃ H₃ pins ex E') elt te)
   (hs:∀ x,foldedSetIterable iter X.env x=pure x:=by intro _;rfl) (hfN:X.fn yT=true\/X.env.scope.names.lookup yT=some .local:=by first | exact .inl rfl | exact .inr rfl | assumption) :
   PS X (.Assign [.Name yT py] (.ListComp elt [⟨.Name x px,iter,ifs,0⟩] scope pos) spos) (tAsg (tComp wi js tc te) (gName iN)):=by
 intro pins s σ H D I h
 rw [exec_Assign_Name_used _ _ _ _ hsw]
 refine wpAny_bind (wpAny_standAt (wpAny_bind ?_))
 show wpAny _ X.A (do let _ ← comprehension (.ListComp elt [⟨.Name x px,iter,ifs,0⟩] scope pos) scope X.env _ (newList []) false (eval iter X.env) (some (assign (.Name yT py) X.env))) _ _ s
 refine wpAny_bind (wpAny_mono (wpAny_comprehension_free (use:=some (assign (.Name yT py) X.env)) (Q:=λ_ s'=>SP X pins D .next s') rfl hs O.clos O.kind O.names (thn (hi pins s σ H _ I h) λv s1 h1=>thn h1 λitv s2 ⟨it,fp,tn,J,H1,e,I2,T,t0,hf,q⟩=>?_))
   (λ_ s' hq=>wpAny_pure (wpAny_pure hq)) λ_ _ e=>e)
 subst e
 refine wpAny_newObj_type (wpAny_newFunctionEnv O.nocell (by intro y hy;cases hy) (λh₁ hns₁ hsb₁=>?_) O.kind)
 obtain ⟨W,⟨m0,w0⟩,step⟩:=q s2.heap.objs.size (I2.hok.fresh (Nat.le_refl _))
 have I3:Inv X pins σ (upd H1 s2.heap.objs.size (.lst [])) { s2 with heap:=s2.heap.push { cls:=.type "list",data:=.seq ([]:List Value).toArray } }:=I2.lnew (t':=s2.toks) (its:=[]) .nil (Nat.zero_le _)
 have fpl:∀ b∈fp,b < s2.heap.objs.size:=λb hb=>by
   obtain ⟨o,e,_⟩:=T.obj _ _ t0 b hb
   exact Heap.lt_size e
 have hf3:∀ b∈fp,FpOk X pins (upd H1 s2.heap.objs.size (.lst [])) b:=λb hb=>by
   obtain ⟨f0,f⟩:=hf b hb
   exact ⟨by rw [upd_ne (Nat.ne_of_lt (fpl b hb))];exact f0,f⟩
 generalize hs3:({ s2 with heap:=s2.heap.push { cls:=.type "list",data:=.seq ([]:List Value).toArray } }:Shared)=s₃ at *
 generalize hH3:upd H1 s2.heap.objs.size (.lst [])=H₃ at *
 have hsz:s2.heap.objs.size < s₃.heap.objs.size:=by rw [← hs3];show _ < (s2.heap.push _).objs.size;rw [Heap.size_push];exact Nat.lt_succ_self _
 have hk2:∀ b o,s2.heap.get? b=some o->s₃.heap.get? b=some o:=λb o e=>by rw [← hs3];exact Heap.get?_push_of_some _ e
 have hk3:∀ b o,s₃.heap.get? b=some o->h₁.get? b=some o:=λb o e=>hsb₁.extBut b o (Nat.ne_of_lt (Heap.lt_size e)) (Heap.get?_push_of_some _ e)
 have t3:tn 0 h₁:=T.keep _ _ _ t0 λb _ o e=>hk3 b o (hk2 b o e)
 have loop:∀ (R:Result->Shared->Prop),(∀ f s',(∃ σ' H' i m ys,Inv (cxComp X scope cl s₃.heap.objs.size x (x :: caps) s₃ H₃ pins fp (notedBy (model X.prog X.w) X.A (compEnvC scope cl s₃.heap.objs.size X.env) λe s'=>R (.error e) s')) [] σ' H' s'/\W i m ys H'/\D.nx (σ.set iN (some (.ref s2.heap.objs.size))) H')->R (.ok f) s') ->
     ∀ tk,codeAny (model X.prog X.w) X.A (.compLoop (.ListComp elt [⟨.Name x px,iter,ifs,0⟩] scope pos) 0 (.ref it) (.ref s2.heap.objs.size) (compEnvC scope cl s₃.heap.objs.size X.env)) R { s₃ with heap:=h₁,toks:=tk }:=by
   intro R hR tk
   have I4:=Inv.enter (E':=notedBy (model X.prog X.w) X.A (compEnvC scope cl s₃.heap.objs.size X.env) λe s'=>R (.error e) s') (tk:=tk) O I3 (λb hb=>⟨hf3 b hb,Nat.lt_trans (fpl b hb) hsz⟩) hcap hjs hkc (by simpa using hns₁) hk3
   have stat:∀ {H':Hp},(∀ b∈fp,H' b=none)->∀ b∈fp,FpOk (cxComp X scope cl s₃.heap.objs.size x (x :: caps) s₃ H₃ pins fp (notedBy (model X.prog X.w) X.A (compEnvC scope cl s₃.heap.objs.size X.env) λe s'=>R (.error e) s')) [] H' b:=λhn b hb=>by
     obtain ⟨f0,f1,f2,f3,f4,f5⟩:=hf3 b hb
     refine ⟨hn b hb,Nat.ne_of_lt (Nat.lt_trans (fpl b hb) hsz),λz=>?_,.inl hb,λy c e=>f4 y c (O.sub _ (mem_of_lookup e)),λp hp=>f5 p (by simpa [cxComp] using hp)⟩
     rcases List.mem_cons.mp (I3.stkSub b z) with q | q
     · exact f1 q
     · exact f2 q
   refine codeAny_compLoop_tests (λn s'=>∃ i v0 ys H',Inv (cxComp X scope cl s₃.heap.objs.size x (x :: caps) s₃ H₃ pins fp (notedBy (model X.prog X.w) X.A (compEnvC scope cl s₃.heap.objs.size X.env) λe s'=>R (.error e) s')) [] (v0 :: capt σ js) H' s'/\tn i s'.heap/\(∀ b∈fp,H' b=none)/\W i n ys H') ?_ m0
     ⟨0,none,[],H₃,I4,t3,λb hb=>(hf3 b hb).1,w0⟩
   rintro n s4 ⟨i,v0,ys,H4,J4,t4,fr4,w4⟩
   obtain ⟨hD,hlen,hor⟩:=step i n ys H4 w4
   rcases hor with ⟨stop,qn⟩ | ⟨go,hy⟩
   · refine thn (T.done (cxComp X scope cl s₃.heap.objs.size x (x :: caps) s₃ H₃ pins fp (notedBy (model X.prog X.w) X.A (compEnvC scope cl s₃.heap.objs.size X.env) λe s'=>R (.error e) s')) rfl rfl rfl hc i [] s4 _ H4 _ J4 (stat fr4) t4 stop) λr s5 ⟨hr,J5⟩=>?_
     subst hr
     exact hR _ _ ⟨_,H4,i,n,ys,J5,w4,qn⟩
   · refine thn (T.item (cxComp X scope cl s₃.heap.objs.size x (x :: caps) s₃ H₃ pins fp (notedBy (model X.prog X.w) X.A (compEnvC scope cl s₃.heap.objs.size X.env) λe s'=>R (.error e) s')) rfl rfl rfl hc i [] s4 _ H4 _ J4 (stat fr4) t4 go) λr s5 ⟨u,hr,h5⟩=>?_
     subst hr
     have ea:assign (.Name x px) (compEnvC scope cl s₃.heap.objs.size X.env) u=(letOwnedTupleGo (.Name x px) (.ref it) u >>= λ_=>assign (.Name x px) (compEnvC scope cl s₃.heap.objs.size X.env) u):=rfl
     show wpAny _ _ (assign (.Name x px) (compEnvC scope cl s₃.heap.objs.size X.env) u) _ _ _
     rw [ea]
     refine wpAny_bind (thn h5 λ_ s6 ⟨y,H6,J6,ry,yl,t6,fr6⟩=>?_)
     have J6':=J6.pinned (stat fr6) (T.obj _ _ t6)
     have hy6:=hy y H6 yl
     refine thn (pg_name (X:=cxComp X scope cl s₃.heap.objs.size x (x :: caps) s₃ H₃ pins fp (notedBy (model X.prog X.w) X.A (compEnvC scope cl s₃.heap.objs.size X.env) λe s'=>R (.error e) s')) (i:=0) (x:=x) (pos:=px) hnd rfl (.inl (lookup_relabel_local O.xloc)) (.inl (beq_self_eq_true x)) _ s6 _ H6 y u (λσ2 H2=>σ2=some y :: capt σ js/\H2=H6) J6' ry ⟨rfl,rfl⟩) λ_ s7 ⟨σ7,H7,J7,e7,e7'⟩=>?_
     subst e7 e7'
     refine thn (ht _ _ _ _ _ _ _ s7 _ H7 _ J7 hy6) λok s8 ⟨H8,J8,q8⟩=>?_
     have back:∀ {σ9:St} {H9:Hp} {s9:Shared},Inv (cxComp X scope cl s₃.heap.objs.size x (x :: caps) s₃ H₃ pins fp (notedBy (model X.prog X.w) X.A (compEnvC scope cl s₃.heap.objs.size X.env) λe s'=>R (.error e) s')) ([]++pinsAt fp s6.heap) σ9 H9 s9->tn (i+1) s9.heap/\∀ b∈fp,H9 b=none:=λJ9=>by
       refine ⟨T.keep _ _ _ t6 λb hb o e=>(J9.pin (b,o) (List.mem_append_right _ (List.mem_append_right _ (mem_pinsAt hb e)))).1,λb hb=>?_⟩
       obtain ⟨o,e,d⟩:=T.obj _ _ t6 b hb
       exact (J9.pin (b,o) (List.mem_append_right _ (List.mem_append_right _ (mem_pinsAt hb e)))).2.1
     cases ok with
     | false =>
       rw [if_neg (by decide)]
       rw [if_neg (by decide)] at q8
       obtain ⟨m',hm,w8⟩:=q8
       obtain ⟨b1,b2⟩:=back J8
       exact ⟨m',hm,i+1,some y,ys,H8,J8.unpinned,b1,b2,w8⟩
     | true =>
       rw [if_pos rfl]
       rw [if_pos rfl] at q8
       refine thn (he _ _ _ _ _ _ _ s8 _ H8 _ J8 q8) λz s9 ⟨vz,H9,J9,rz,hD9,m',hm,w9⟩=>?_
       refine thn (mt_append (X:=cxComp X scope cl s₃.heap.objs.size x (x :: caps) s₃ H₃ pins fp (notedBy (model X.prog X.w) X.A (compEnvC scope cl s₃.heap.objs.size X.env) λe s'=>R (.error e) s')) _ s9 _ H9 (.ref s2.heap.objs.size) [vz] (.ref s2.heap.objs.size) [z] (λ_ H10=>H10=upd H9 s2.heap.objs.size (.lst (ys++[vz]))) J9 rfl (.cons rz .nil) ⟨_,ys,vz,rfl,rfl,hD9,hlen,rfl⟩) λ_ s10 ⟨v10,H10,J10,r10,e10⟩=>?_
       subst e10
       obtain ⟨b1,b2⟩:=back J10
       exact ⟨m',hm,i+1,some y,ys++[vz],_,J10.unpinned,b1,b2,w9⟩
 have fin:∀ tk,codeAny (model X.prog X.w) X.A (.compLoop (.ListComp elt [⟨.Name x px,iter,ifs,0⟩] scope pos) 0 (.ref it) (.ref s2.heap.objs.size) (compEnvC scope cl s₃.heap.objs.size X.env)) (compPost (model X.prog X.w) X.A X.xe (some (assign (.Name yT py) X.env)) (λ_ s'=>SP X pins D .next s') (.ref s2.heap.objs.size) s₃.heap.objs.size) { s₃ with heap:=h₁,toks:=tk }:=λtk=>by
   refine loop _ (λf s' ⟨σ',H',i,m,ys,J',w',qn⟩=>?_) tk
   obtain ⟨mm,hmm,_⟩:=J'.loc
   have I5:Inv X pins σ H' s':=Inv.block I3 hf3 J' (Heap.SameBut.refl _ _)
   show wpAny _ _ (assign (.Name yT py) X.env _) _ _ _
   refine wpAny_assign_Name (store_ok2 I5 hN hiN hyL (v:=.ref s2.heap.objs.size) rfl (λs6 I6 ⟨a6,hs6,ha6⟩=>?_) hfN)
   have neL:s₃.heap.objs.size≠X.env.locals:=(Nat.ne_of_lt I3.lt).symm
   have neCl:∀ y c,X.env.cells.lookup y=some c->c≠s₃.heap.objs.size:=λy c z=>by
     obtain ⟨v,q⟩:=I3.cell _ _ z
     exact Nat.ne_of_lt q.lt
   have neC:s₃.heap.objs.size≠a6:=by
     rcases ha6 with z | z
     · rw [z];exact neL
     · exact (neCl _ _ z).symm
   have fr:H' s₃.heap.objs.size=none:=J'.free
   refine ⟨mm,Heap.Ns.sameBut hmm hs6 neC,λh' hs'=>⟨_,H',I6.turned (t':=s6.toks) (it:=s₃.heap.objs.size) (λb o hb e=>(hs'.2 b hb).trans e) fr neL (.inr I3.sz) neCl (λp hp=>Nat.ne_of_lt (Heap.lt_size (I3.pin p hp).1)),qn⟩⟩
 exact codeAny_compStart_list (fin _) (T.self _ _ _ _ _ t3 (fin _))
end
end L2

namespace PySem
open Sem (wp)
def SqI (b:Bool) (h:Heap) (i l:Addr) (k:Nat):Prop:=match b with
 | false=>h.IsListIter i l k
 | true=>h.IsTupleIter i l k
def SqA (b:Bool) (h:Heap) (l:Addr) (xs:Array Value):Prop:=match b with
 | false=>h.IsList l xs
 | true=>h.IsTuple l xs
theorem SqI.at {b:Bool} {h h':Heap} {i l:Addr} {k:Nat} (x:SqI b h i l k) (e:∀ o,h.get? i=some o->h'.get? i=some o):SqI b h' i l k:=by
 cases b<;>(obtain ⟨o,h1,r⟩:=x;exact ⟨o,e o h1,r⟩)
theorem SqA.at {b:Bool} {h h':Heap} {l:Addr} {xs:Array Value} (x:SqA b h l xs) (e:∀ o,h.get? l=some o->h'.get? l=some o):SqA b h' l xs:=by
 cases b<;>(obtain ⟨o,h1,r⟩:=x;exact ⟨o,e o h1,r⟩)
theorem SqI.obj {b:Bool} {h:Heap} {i l:Addr} {k:Nat} (x:SqI b h i l k):∃ o,h.get? i=some o/\∀ v,o.data≠.cell v:=by
 cases b<;>(obtain ⟨o,h1,_,h3⟩:=x;exact ⟨o,h1,λv z=>by rw [h3] at z;cases z⟩)
theorem SqA.lt {b:Bool} {h:Heap} {l:Addr} {xs:Array Value} (x:SqA b h l xs):l < h.objs.size:=by
 cases b<;>(obtain ⟨o,h1,_⟩:=x;exact Heap.lt_size h1)
section
variable {prog:Program} {w:World} {A:Around} {E:Value->Shared->Prop} {s:Shared}
theorem next_sq {b:Bool} {it l:Addr} {i:Nat} {items:Array Value} {x:Value} {Q:Value->Shared->Prop} (hit:SqI b s.heap it l i) (hl:SqA b s.heap l items) (hx:items[i]?=some x)
   (hQ:∀ h',SqI b h' it l (i+1)->Heap.SameBut it s.heap h'->Q x { s with heap:=h' }):wpAny (model prog w) A (Builtin.SmallTypes.nextOf (.ref it)) Q E s:=by
 cases b with
 | false=>exact wpAny_nextOf_list_item hit hl hx hQ
 | true =>
   have hty:s.TypeIs (.ref it) "tuple_iterator":=Heap.IsTupleIter.typeIs hit
   obtain ⟨o,ho,hc,hd⟩:=id hit
   obtain ⟨ol,hol,_,nl,hdl⟩:=hl
   unfold Builtin.SmallTypes.nextOf
   refine wpAny_bind (wpAny_callSpecial?_slot (name:=Str.ofString "__next__") hty F.slot_tuple_iterator_next (wpAny_call_entry F.slot_tuple_iterator_next hty F.entry_tuple_iterator_next ?_ (F.args_tuple_iterator_next_1 _)))
   show wpAny _ _ (field (.ref it) 0 >>= _) _ _ s
   refine wpAny_bind (wpAny_field ho hd (x:=.ref l) rfl ?_)
   show wpAny _ _ (if (Value.ref l == Value.none)=true then _ else _) _ _ s
   rw [if_neg (show ¬ ((Value.ref l == Value.none)=true) from Bool.false_ne_true)]
   show wpAny _ _ (field (.ref it) 1 >>= _) _ _ s
   refine wpAny_bind (wpAny_field ho hd (x:=.int i 0) rfl ?_)
   show wpAny _ _ (seqItems? (.ref l) >>= _) _ _ s
   refine wpAny_bind (wpAny_seqItems hol hdl ?_)
   simp only [Int.toNat_natCast,hx]
   refine wpAny_bind (wpAny_setField ho hd (by simp) (wpAny_pure ⟨x,rfl,wpAny_pure (hQ _ ?_ (Heap.SameBut.update ..))⟩))
   exact ⟨_,Heap.get?_update_self _ ho (Obj.isFreed_of_fields (Obj.data_mapFields hd _)),(Obj.cls_mapFields ..).trans hc,by rw [Obj.data_mapFields hd];simp [rawInt]⟩
theorem next_sq_end {b:Bool} {it l:Addr} {i:Nat} {items:Array Value} {Q:Value->Shared->Prop} (hh:A.handled=none) (hit:SqI b s.heap it l i) (hl:SqA b s.heap l items) (hx:items[i]?=none)
   (hE:∀ h' e,Heap.ExtBut it s.heap h'->(∃ o,h'.get? e=some o/\o.cls=.type "StopIteration")->E (.ref e) { s with heap:=h' }):wpAny (model prog w) A (Builtin.SmallTypes.nextOf (.ref it)) Q E s:=by
 cases b with
 | false=>exact wpAny_nextOf_list_end hh hit hl hx hE
 | true =>
   have hty:s.TypeIs (.ref it) "tuple_iterator":=Heap.IsTupleIter.typeIs hit
   obtain ⟨o,ho,hc,hd⟩:=id hit
   obtain ⟨ol,hol,_,nl,hdl⟩:=hl
   unfold Builtin.SmallTypes.nextOf
   refine wpAny_bind (wpAny_callSpecial?_slot (name:=Str.ofString "__next__") hty F.slot_tuple_iterator_next (wpAny_call_entry F.slot_tuple_iterator_next hty F.entry_tuple_iterator_next ?_ (F.args_tuple_iterator_next_1 _)))
   show wpAny _ _ (field (.ref it) 0 >>= _) _ _ s
   refine wpAny_bind (wpAny_field ho hd (x:=.ref l) rfl ?_)
   show wpAny _ _ (if (Value.ref l == Value.none)=true then _ else _) _ _ s
   rw [if_neg (show ¬ ((Value.ref l == Value.none)=true) from Bool.false_ne_true)]
   show wpAny _ _ (field (.ref it) 1 >>= _) _ _ s
   refine wpAny_bind (wpAny_field ho hd (x:=.int i 0) rfl ?_)
   show wpAny _ _ (seqItems? (.ref l) >>= _) _ _ s
   refine wpAny_bind (wpAny_seqItems hol hdl ?_)
   simp only [Int.toNat_natCast,hx]
   refine wpAny_bind (wpAny_rule (wpAny_bind (wpAny_setField ho hd (by simp) ?_)))
   show wpAny _ _ (newExc (.type "StopIteration") [] >>= _) _ _ _
   refine wpAny_bind ?_
   simp only [newExc,newTuple]
   refine wpAny_bind (wpAny_newObj_type ?_ (by size_fits))
   refine wpAny_bind (m:=firstArgMember _ _) (wpAny_of_eq (a:=Value.none) (by first | rfl | (simp only [firstArgMember];rfl)) ?_)
   refine wpAny_newObj_type ?_ (by size_fits)
   simp only [raiseNew]
   refine wpAny_bind (wpAny_handled ?_)
   first | rw [show A.in1.handled=none from hh] | rw [hh]
   refine wpAny_bind (wpAny_pure (wpAny_throw ?_))
   exact hE _ _ (((Heap.SameBut.update ..).extBut.push _).push _) ⟨_,Heap.get?_push_size _ rfl,rfl⟩
theorem zip_sq_item {b:Bool} {z TI TO i1 i2 l1 l2:Addr} {k1 k2:Nat} {xs ys:Array Value} {x y a c:Value} {Q:Option Value->Shared->Prop} (D:ZipApart z TI TO i1 i2 l1 l2)
   (hz:IsZip s.heap z TI TO .none) (hTI:IsPair s.heap TI (.ref i1) (.ref i2)) (hTO:IsPair s.heap TO a c)
   (h1:SqI b s.heap i1 l1 k1) (h2:SqI b s.heap i2 l2 k2) (hl1:SqA b s.heap l1 xs) (hl2:SqA b s.heap l2 ys) (hx:xs[k1]?=some x) (hy:ys[k2]?=some y)
   (hQ:∀ h',IsZip h' z TI TO (rawInt s.heap.objs.size)->IsPair h' TO x y->SqI b h' i1 l1 (k1+1)->SqI b h' i2 l2 (k2+1)->IsPair h' s.heap.objs.size x y ->
     (∀ c o,c≠z->c≠TO->c≠i1->c≠i2->s.heap.get? c=some o->h'.get? c=some o)->Q (some (.ref s.heap.objs.size)) { s with heap:=h' }):wpAny (model prog w) A (pyNext (.ref z)) Q E s:=by
 have hT:s.TypeIs (.ref z) "zip":=⟨_,hz,rfl⟩
 unfold pyNext
 refine wpAny_bind (wpAny_attempt (wpAny_callSpecial?_slot (name:=Str.ofString "__next__") hT F.slot_zip_next (wpAny_call_entry F.slot_zip_next hT F.entry_zip_next ?_ (F.args_zip_next_1 _))))
 show wpAny _ _ (field (.ref z) 2 >>= _) _ _ _
 refine wpAny_bind (wpAny_field hz rfl (x:=.bool false) rfl ?_)
 show wpAny _ _ (field (.ref z) 3 >>= _) _ _ _
 refine wpAny_bind (wpAny_field hz rfl (x:=.ref TI) rfl (wpAny_bind (wpAny_seqItems hTI rfl ?_)))
 show wpAny _ _ (Builtin.SmallTypes.ownedTupleIsFree (.ref z) >>= _) _ _ _
 refine wpAny_bind ?_
 unfold Builtin.SmallTypes.ownedTupleIsFree
 refine wpAny_bind (wpAny_field hz rfl (x:=.none) rfl (wpAny_pure ?_))
 simp only [if_true]
 refine wpAny_bind (wpAny_rule (wpAny_bind (wpAny_field hz rfl (x:=.ref TO) rfl (wpAny_bind (wpAny_setField_rec hz (by simp) λg1 z1 e1=>?_)))))
 replace z1:IsZip g1 z TI TO .ellipsis:=z1
 refine wpAny_bind ?_
 simp only [List.zipIdx_cons,List.zipIdx_nil,List.forIn_cons,List.forIn_nil]
 refine wpAny_bind (wpAny_bind (wpAny_onRaise ?_))
 show wpAny _ _ (Builtin.SmallTypes.nextOf (.ref i1) >>= _) _ _ _
 refine wpAny_bind (next_sq (h1.at λo e=>e1.extBut _ _ D.i1z e) (hl1.at λo e=>e1.extBut _ _ D.l1z e) hx λg2 h1' e2=>wpAny_pure ?_)
 have t2:IsPair g2 TO a c:=e2.extBut _ _ D.TOi1 (e1.extBut _ _ D.TOz hTO)
 refine wpAny_bind (wpAny_seqItems t2 rfl (wpAny_bind (wpAny_updateSeq_pair t2 λg3 t3 e3=>?_)))
 replace t3:IsPair g3 TO x c:=t3
 refine wpAny_bind (wpAny_letGo (wpAny_pure ?_))
 refine wpAny_bind (wpAny_bind (wpAny_onRaise ?_))
 show wpAny _ _ (Builtin.SmallTypes.nextOf (.ref i2) >>= _) _ _ _
 refine wpAny_bind (next_sq (h2.at λo e=>e3.extBut _ _ D.TOi2.symm (e2.extBut _ _ D.i12.symm (e1.extBut _ _ D.i2z e))) (hl2.at λo e=>e3.extBut _ _ D.l2TO (e2.extBut _ _ D.l2i1 (e1.extBut _ _ D.l2z e))) hy λg4 h2' e4=>wpAny_pure ?_)
 have t4:IsPair g4 TO x c:=e4.extBut _ _ D.TOi2 t3
 refine wpAny_bind (wpAny_seqItems t4 rfl (wpAny_bind (wpAny_updateSeq_pair t4 λg5 t5 e5=>?_)))
 replace t5:IsPair g5 TO x y:=t5
 refine wpAny_bind (wpAny_letGo (wpAny_pure (wpAny_pure ?_)))
 refine wpAny_bind (wpAny_seqItems t5 rfl (wpAny_bind (wpAny_newTuple ?_)))
 have hsz:g5.objs.size=s.heap.objs.size:=by rw [e5.1,e4.1,e3.1,e2.1,e1.1]
 have z5:IsZip g5 z TI TO .ellipsis:=e5.extBut _ _ D.TOz.symm (e4.extBut _ _ D.i2z.symm (e3.extBut _ _ D.TOz.symm (e2.extBut _ _ D.i1z.symm z1)))
 have k5:∀ c o,c≠z->c≠TO->c≠i1->c≠i2->s.heap.get? c=some o->g5.get? c=some o:=λc o c1 c2 c3 c4 e =>
   e5.extBut _ _ c2 (e4.extBut _ _ c4 (e3.extBut _ _ c2 (e2.extBut _ _ c3 (e1.extBut _ _ c1 e))))
 have w1:SqI b g5 i1 l1 (k1+1):=h1'.at λo e=>e5.extBut _ _ D.TOi1.symm (e4.extBut _ _ D.i12 (e3.extBut _ _ D.TOi1.symm e))
 have w2:SqI b g5 i2 l2 (k2+1):=h2'.at λo e=>e5.extBut _ _ D.TOi2.symm e
 have zlt:z < g5.objs.size:=Heap.lt_size z5
 show wpAny _ _ (Builtin.SmallTypes.ownedTupleHandOut (.ref z) (.ref g5.objs.size) >>= _) _ _ _
 refine wpAny_bind ?_
 unfold Builtin.SmallTypes.ownedTupleHandOut
 have z6:IsZip (g5.push { cls:=.type "tuple",data:=.seq #[x,y] }) z TI TO .ellipsis:=Heap.get?_push_of_some _ z5
 refine wpAny_bind (wpAny_setField_rec z6 (by simp) λg7 z7 e7=>?_)
 replace z7:IsZip g7 z TI TO (rawInt g5.objs.size):=z7
 refine wpAny_setField_rec z7 (by simp) λg8 z8 e8=>?_
 replace z8:IsZip g8 z TI TO (rawInt g5.objs.size):=z8
 have up:∀ c o,c≠z->g5.get? c=some o->g8.get? c=some o:=λc o c1 e=>e8.extBut _ _ c1 (e7.extBut _ _ c1 (Heap.get?_push_of_some _ e))
 have t8:IsPair g8 g5.objs.size x y:=e8.extBut _ _ (Nat.ne_of_gt zlt) (e7.extBut _ _ (Nat.ne_of_gt zlt) (Heap.get?_push_size _ rfl))
 rw [hsz] at z8 t8
 refine wpAny_pure ⟨_,rfl,wpAny_pure ?_⟩
 show Q (some (.ref g5.objs.size)) _
 rw [hsz]
 exact hQ g8 z8 (up _ _ D.TOz t5) (w1.at λo e=>up _ o D.i1z e) (w2.at λo e=>up _ o D.i2z e) t8 λc o c1 c2 c3 c4 e=>up c o c1 (k5 c o c1 c2 c3 c4 e)
theorem zip_sq_end {b:Bool} {z TI TO i1 i2 l1 l2:Addr} {k1:Nat} {xs:Array Value} {Q:Option Value->Shared->Prop} (hh:A.handled=none) (D:ZipApart z TI TO i1 i2 l1 l2)
   (hz:IsZip s.heap z TI TO .none) (hTI:IsPair s.heap TI (.ref i1) (.ref i2)) (h1:SqI b s.heap i1 l1 k1) (hl1:SqA b s.heap l1 xs) (hx:xs[k1]?=none)
   (hQ:∀ h',(∀ c o,c≠z->c≠i1->s.heap.get? c=some o->h'.get? c=some o)->Q none { s with heap:=h' }):wpAny (model prog w) A (pyNext (.ref z)) Q E s:=by
 have hT:s.TypeIs (.ref z) "zip":=⟨_,hz,rfl⟩
 unfold pyNext
 refine wpAny_bind (wpAny_attempt (wpAny_callSpecial?_slot (name:=Str.ofString "__next__") hT F.slot_zip_next (wpAny_call_entry F.slot_zip_next hT F.entry_zip_next ?_ (F.args_zip_next_1 _))))
 show wpAny _ _ (field (.ref z) 2 >>= _) _ _ _
 refine wpAny_bind (wpAny_field hz rfl (x:=.bool false) rfl ?_)
 show wpAny _ _ (field (.ref z) 3 >>= _) _ _ _
 refine wpAny_bind (wpAny_field hz rfl (x:=.ref TI) rfl (wpAny_bind (wpAny_seqItems hTI rfl ?_)))
 show wpAny _ _ (Builtin.SmallTypes.ownedTupleIsFree (.ref z) >>= _) _ _ _
 refine wpAny_bind ?_
 unfold Builtin.SmallTypes.ownedTupleIsFree
 refine wpAny_bind (wpAny_field hz rfl (x:=.none) rfl (wpAny_pure ?_))
 simp only [if_true]
 refine wpAny_bind (wpAny_rule (wpAny_bind (wpAny_field hz rfl (x:=.ref TO) rfl (wpAny_bind (wpAny_setField_rec hz (by simp) λg1 z1 e1=>?_)))))
 replace z1:IsZip g1 z TI TO .ellipsis:=z1
 refine wpAny_bind ?_
 simp only [List.zipIdx_cons,List.zipIdx_nil,List.forIn_cons,List.forIn_nil]
 refine wpAny_bind (wpAny_bind (wpAny_onRaise ?_))
 show wpAny _ _ (Builtin.SmallTypes.nextOf (.ref i1) >>= _) _ _ _
 refine wpAny_bind (next_sq_end hh (h1.at λo e=>e1.extBut _ _ D.i1z e) (hl1.at λo e=>e1.extBut _ _ D.l1z e) hx λg2 e e2 he=>?_)
 obtain ⟨oe,hoe,hce⟩:=he
 have z2:IsZip g2 z TI TO .ellipsis:=e2 _ _ D.i1z.symm z1
 have hez:e≠z:=λq=>by subst q;rw [z2] at hoe;cases hoe;simp at hce
 refine wpAny_setField_rec z2 (by simp) λg3 _ e3=>?_
 refine wpAny_bind (wpAny_isInstance (T:="StopIteration") (b:=true) ⟨oe,e3.extBut _ _ hez hoe,hce⟩ isSubtype_stop ?_)
 exact wpAny_pure (hQ g3 λc o c1 c2 q=>e3.extBut _ _ c1 (e2 _ _ c2 (e1.extBut _ _ c1 q)))
abbrev zipT1 (h:Heap) (l1:Addr):Heap:=h.push { cls:=.type "tuple_iterator",data:=.fields #[.ref l1,.int 0 0] }
abbrev zipT2 (h:Heap) (l1 l2:Addr):Heap:=(zipT1 h l1).push { cls:=.type "tuple_iterator",data:=.fields #[.ref l2,.int 0 0] }
abbrev zipT3 (h:Heap) (l1 l2:Addr):Heap:=(zipT2 h l1 l2).push { cls:=.type "tuple",data:=.seq #[.ref h.objs.size,.ref (zipT1 h l1).objs.size] }
abbrev zipT4 (h:Heap) (l1 l2:Addr):Heap:=(zipT3 h l1 l2).push { cls:=.type "tuple",data:=.seq #[.none,.none] }
abbrev zipT5 (h:Heap) (l1 l2:Addr):Heap:=(zipT4 h l1 l2).push { cls:=.type "zip",data:=.fields #[.none,.bool false,.bool false,.ref (zipT2 h l1 l2).objs.size,.ref (zipT3 h l1 l2).objs.size] }
theorem meets_zipT (l1 l2:Addr) (xs ys:Array Value) :
   Meets (Builtin.«zip.__new__» ⟨[.type "zip",.ref l1,.ref l2],[]⟩) (λ_ R s=>s.heap.IsTuple l1 xs/\s.heap.IsTuple l2 ys/\R (.ok (.ret (.ref (zipT4 s.heap l1 l2).objs.size))) { s with heap:=zipT5 s.heap l1 l2 }) :=
 .of_wp λprog w A R s h=>by
   obtain ⟨hp,g,d,tk,os⟩:=s;obtain ⟨hl1,hl2,h⟩:=h
   have hsub:=sub_zip
   have hL1:Heap.IsTuple (Shared.heap ⟨hp,g,d,tk,os⟩) l1 xs:=hl1
   have hL2:Heap.IsTuple (Shared.heap ⟨hp.push { cls:=.type "tuple_iterator",data:=.fields #[.ref l1,.int 0 0] },g,d,tk,os⟩) l2 ys:=Heap.IsTuple.push hl2 _
   wp_walk using wpAny_pyIter_tuple hL1,wpAny_pyIter_tuple hL2
   exact ⟨_,rfl,h⟩
theorem call_zip_sq {b:Bool} {l1 l2:Addr} {xs ys:Array Value} {Q:Value->Shared->Prop} (hl1:SqA b s.heap l1 xs) (hl2:SqA b s.heap l2 ys)
   (h:∀ h',IsZip h' (s.heap.objs.size+4) (s.heap.objs.size+2) (s.heap.objs.size+3) .none->IsPair h' (s.heap.objs.size+2) (.ref s.heap.objs.size) (.ref (s.heap.objs.size+1)) ->
     IsPair h' (s.heap.objs.size+3) .none .none->SqI b h' s.heap.objs.size l1 0->SqI b h' (s.heap.objs.size+1) l2 0->(∀ c o,s.heap.get? c=some o->h'.get? c=some o)->Q (.ref (s.heap.objs.size+4)) { s with heap:=h' }) :
   wpAny (model prog w) A (call (.type "zip") [.ref l1,.ref l2]) Q E s:=by
 cases b with
 | false=>exact call_zip_2 hl1 hl2 λh' a1 a2 a3 a4 a5 _ a7=>h h' a1 a2 a3 a4 a5 a7
 | true =>
   refine callType_new F.called_zip (by decide) (F.typeCall_zip_2 _ _) (F.newCall_zip_2 _ _) (λobj=>F.args_object_init_3 obj _ _) F.entry_zip_new (meets_zipT l1 l2 xs ys) ⟨hl1,hl2,?_⟩
   have z1:(zipT1 s.heap l1).objs.size=s.heap.objs.size+1:=Heap.size_push ..
   have z2:(zipT2 s.heap l1 l2).objs.size=s.heap.objs.size+2:=by rw [Heap.size_push,z1]
   have z3:(zipT3 s.heap l1 l2).objs.size=s.heap.objs.size+3:=by rw [Heap.size_push,z2]
   have z4:(zipT4 s.heap l1 l2).objs.size=s.heap.objs.size+4:=by rw [Heap.size_push,z3]
   have g5:(zipT5 s.heap l1 l2).get? (zipT4 s.heap l1 l2).objs.size=some _:=Heap.get?_push_size _ rfl
   have g4:(zipT5 s.heap l1 l2).get? (zipT3 s.heap l1 l2).objs.size=some _:=Heap.get?_push_of_some _ (Heap.get?_push_size _ rfl)
   have g3:(zipT5 s.heap l1 l2).get? (zipT2 s.heap l1 l2).objs.size=some _:=Heap.get?_push_of_some _ (Heap.get?_push_of_some _ (Heap.get?_push_size _ rfl))
   have g2:(zipT5 s.heap l1 l2).get? (zipT1 s.heap l1).objs.size=some _:=Heap.get?_push_of_some _ (Heap.get?_push_of_some _ (Heap.get?_push_of_some _ (Heap.get?_push_size _ rfl)))
   have g1:(zipT5 s.heap l1 l2).get? s.heap.objs.size=some _:=Heap.get?_push_of_some _ (Heap.get?_push_of_some _ (Heap.get?_push_of_some _ (Heap.get?_push_of_some _ (Heap.get?_push_size _ rfl))))
   show _/\_
   rw [z2,z3,z4] at g5
   rw [z1,z2] at g3
   rw [z3] at g4
   rw [z1] at g2
   rw [z4]
   exact ⟨⟨_,g5,rfl⟩,h _ g5 g3 g4 ⟨_,g1,rfl,rfl⟩ ⟨_,g2,rfl,rfl⟩ λc o x=>Heap.get?_push_of_some _ (Heap.get?_push_of_some _ (Heap.get?_push_of_some _ (Heap.get?_push_of_some _ (Heap.get?_push_of_some _ x))))⟩
end
end PySem
namespace L2
open PySem PySem.Spec PyProof.Rows
def Sq (b:Bool) (K:PySem.W.Frag) (H:Hp) (a:Addr) (xs:List V):Prop:=match b with
 | false=>SqL K H a xs
 | true=>SqT K H a xs
theorem Sq.same {b:Bool} {K:PySem.W.Frag} {H H':Hp} {a:Addr} {xs:List V} (e:Same H H') (h:Sq b K H a xs):Sq b K H' a xs:=by
 cases b
 · exact e.seq h
 · exact e.seqT h
section
variable {X:Cx}
theorem Inv.sq {pins:List (Addr × Obj)} {σ:St} {H:Hp} {s:Shared} {b:Bool} {a:Addr} {xs:List V} (I:Inv X pins σ H s) (h:Sq b X.K H a xs):∃ its:List Value,Vals xs its/\SqA b s.heap a its.toArray:=by
 cases b with
 | false=>obtain ⟨its,r,p,_⟩:=I.list h;exact ⟨its,r,p.isList⟩
 | true=>obtain ⟨its,r,p,_⟩:=I.tuple h;exact ⟨its,r,p⟩
theorem Inv.sq_inj {pins:List (Addr × Obj)} {σ:St} {H:Hp} {s:Shared} {b:Bool} {a:Addr} {xs ys:List V} (I:Inv X pins σ H s) (h:Sq b X.K H a xs) (h':Sq b X.K H a ys):xs=ys:=by
 cases b
 · exact I.list_inj h h'
 · exact I.tuple_inj h h'
theorem Inv.turnedL {pins:List (Addr × Obj)} {σ:St} {H:Hp} {s:Shared} {h':Heap} {t':Nat} {ch:List Addr} (I:Inv X pins σ H s) (hf:∀ b∈ch,FpOk X pins H b) (k:∀ b o,b ∉ ch->s.heap.get? b=some o->h'.get? b=some o):Inv X pins σ H { s with heap:=h',toks:=t' }:=by
 refine I.step (g':=s.gens) (d':=s.drawn) (ch:=ch) (λb hb=>?_) (λb o _ _ n e _=>k b o n e) (λb o _ _ n e _=>⟨o.slots,k b o n e⟩) (λ_ _ _ _ n=>n) (λb o n e=>⟨o,k b o n e⟩) (λ_ _ q=>q) (λ_ _ _ q=>q) (λ_ ps q=>⟨#[],by rw [Array.append_empty];exact q⟩) (λm hm=>?_) (λa o e=>?_) I.bare
 · obtain ⟨_,f1,_,f3,f4,f5⟩:=hf b hb
   exact ⟨f3,f1,f4,f5⟩
 · obtain ⟨o,es,ep,ho,r⟩:=hm
   exact ⟨o,es,ep,k _ o (λz=>(hf _ z).2.1 rfl) ho,r⟩
 · refine (I.hok a o e).stay (λb u hb q=>k b u (λz=>?_) q) (λ_ q=>q) λ_ _ q=>q
   have n:=(hf b z).1
   rcases hb with rfl | hb
   · rw [n] at e;cases e
   · rw [n] at hb;cases hb
theorem Inv.aptSz {pins:List (Addr × Obj)} {σ:St} {H:Hp} {s:Shared} {b:Addr} (I:Inv X pins σ H s) (hb:s.heap.objs.size <= b) (hn:H b=none):Apt X pins H b:=by
 obtain ⟨_,f1,_,_,f4,f5⟩:=I.fpOk hb hn
 refine ⟨?_,hn,f1,f4,f5⟩
 cases q:X.s₀.heap.get? b with
 | none=>rfl
 | some o=>exact absurd (Nat.lt_of_lt_of_le (Heap.lt_size q) (Nat.le_trans I.sz hb)) (Nat.lt_irrefl _)
def Itz (b:Bool) (K:PySem.W.Frag) (a1 a2:Addr):It :=
 ⟨λi H=>∃ xs ys x y,Sq b K H a1 xs/\Sq b K H a2 ys/\xs[i]?=some x/\ys[i]?=some y,
  λi H v H'=>∃ T x y,H T=none/\v=.ref T/\H'=upd H T (.tup [x,y])/\(∀ xs,Sq b K H a1 xs->xs[i]?=some x)/\∀ ys,Sq b K H a2 ys->ys[i]?=some y,
  λi H=>∃ xs,Sq b K H a1 xs/\xs.length <= i⟩
theorem turn_zip {P:Program} {w:World} {K:PySem.W.Frag} {elts:List Expr} {kt:Nat} {pt:Pos} {b:Bool} {z TI TO i1 i2 a1 a2:Addr} (D:ZipApart z TI TO i1 i2 a1 a2) :
   Turn P w K (.Tuple elts kt pt) (Itz b K a1 a2) [z,TI,TO,i1,i2] z (λi h=>IsZip h z TI TO .none/\IsPair h TI (.ref i1) (.ref i2)/\(∃ a c,IsPair h TO a c)/\SqI b h i1 a1 i/\SqI b h i2 a2 i) where
 mem:=List.mem_cons_self
 obj:=λi h st c hc=>by
   obtain ⟨s1,s2,⟨_,_,s3⟩,s4,s5⟩:=st
   simp only [List.mem_cons,List.not_mem_nil,or_false] at hc
   rcases hc with rfl | rfl | rfl | rfl | rfl
   · exact ⟨_,s1,λv q=>by cases q⟩
   · exact ⟨_,s2,λv q=>by cases q⟩
   · exact ⟨_,s3,λv q=>by cases q⟩
   · exact s4.obj
   · exact s5.obj
 keep:=λi h h' st k=>by
   obtain ⟨s1,s2,⟨u,v,s3⟩,s4,s5⟩:=st
   exact ⟨k z (by simp) _ s1,k TI (by simp) _ s2,⟨u,v,k TO (by simp) _ s3⟩,s4.at λo e=>k i1 (by simp) o e,s5.at λo e=>k i2 (by simp) o e⟩
 item:=by
   intro X hP hw hK hc i pins s σ H E I hf st hg
   subst hP hw hK
   obtain ⟨s1,s2,⟨u,v,s3⟩,s4,s5⟩:=st
   obtain ⟨xs,ys,x,y,q1,q2,hx,hy⟩:=hg
   obtain ⟨us,r1,p1⟩:=I.sq q1
   obtain ⟨ws,r2,p2⟩:=I.sq q2
   obtain ⟨ux,hux,rx⟩:=r1.get hx
   obtain ⟨uy,huy,ry⟩:=r2.get hy
   refine zip_sq_item D s1 s2 s3 s4 s5 p1 p2 (x:=ux) (y:=uy) (by simpa using hux) (by simpa using huy) λh' t1 t2 t3 t4 t5 kk=>?_
   have hfresh:H s.heap.objs.size=none:=I.hok.fresh (Nat.le_refl _)
   have lt:∀ {c o},s.heap.get? c=some o->c≠s.heap.objs.size:=λe=>Nat.ne_of_lt (Heap.lt_size e)
   refine ⟨_,rfl,wpAny_letOwnedTupleGo_zip t1 λh'' u1 e2=>?_⟩
   have ch:∀ c o,c ∉ [z,TO,i1,i2]->s.heap.get? c=some o->h''.get? c=some o:=λc o n e=>by
     have n1:c≠z:=λq=>n (by simp [q])
     exact e2.extBut _ _ n1 (kk c o n1 (λq=>n (by simp [q])) (λq=>n (by simp [q])) (λq=>n (by simp [q])) e)
   have sub:∀ c∈[z,TO,i1,i2],c∈[z,TI,TO,i1,i2]:=λc hc=>by
     simp only [List.mem_cons,List.not_mem_nil,or_false] at hc ⊢
     rcases hc with h | h | h | h<;>simp [h]
   have I1:Inv X pins σ H { s with heap:=h'' }:=I.turnedL (t':=s.toks) (λb hb=>hf b (sub b hb)) ch
   have T5:IsPair h'' s.heap.objs.size ux uy:=e2.extBut _ _ (lt s1).symm t5
   have apt:=I.aptSz (Nat.le_refl s.heap.objs.size) hfresh
   have I2:=I1.seen (o:=.tup [x,y]) apt ⟨by show 2 <= sizeLine;decide,[ux,uy],.cons rx (.cons ry .nil),⟨_,T5,rfl,_,rfl⟩⟩
   refine ⟨.ref s.heap.objs.size,_,I2,rfl,⟨_,x,y,hfresh,rfl,rfl,λzs hz=>by rw [I.sq_inj hz q1];exact hx,λzs hz=>by rw [I.sq_inj hz q2];exact hy⟩,⟨u1,e2.extBut _ _ D.TIz (kk _ _ D.TIz D.TITO D.TIi1 D.TIi2 s2),⟨_,_,e2.extBut _ _ D.TOz t2⟩,t3.at λo e=>e2.extBut _ _ D.i1z e,t4.at λo e=>e2.extBut _ _ D.i2z e⟩,λb hb=>?_⟩
   obtain ⟨o,ho,_⟩:∃ o,s.heap.get? b=some o/\True:=by
     simp only [List.mem_cons,List.not_mem_nil,or_false] at hb
     rcases hb with rfl | rfl | rfl | rfl | rfl
     · exact ⟨_,s1,trivial⟩
     · exact ⟨_,s2,trivial⟩
     · exact ⟨_,s3,trivial⟩
     · obtain ⟨o,e,_⟩:=s4.obj;exact ⟨o,e,trivial⟩
     · obtain ⟨o,e,_⟩:=s5.obj;exact ⟨o,e,trivial⟩
   rw [upd_ne (lt ho)]
   exact (hf b hb).1
 done:=by
   intro X hP hw hK hc i pins s σ H E I hf st hg
   subst hP hw hK
   obtain ⟨s1,s2,_,s4,s5⟩:=st
   obtain ⟨xs,q1,hx⟩:=hg
   obtain ⟨us,r1,p1⟩:=I.sq q1
   have hl:=r1.length
   exact zip_sq_end (I.ok.hd hc) D s1 s2 s4 p1 (by simp;omega) λh' kk=>⟨rfl,I.turnedL (t':=s.toks) (ch:=[z,i1]) (λb hb=>hf b (by
     simp only [List.mem_cons,List.not_mem_nil,or_false] at hb ⊢
     rcases hb with q | q<;>simp [q])) λb o n e=>kk b o (λq=>n (by simp [q])) (λq=>n (by simp [q])) e⟩
 self:=λA i s Q E st hQ=>wpAny_pyIter_zip st.1 hQ
def iZip (b:Bool) (K:PySem.W.Frag) (ta:TA):TI:=λσ H R=>ta σ H λvs H1=>∃ a1 a2 xs ys,vs=[.ref a1,.ref a2]/\Sq b K H1 a1 xs/\Sq b K H1 a2 ys/\R (Itz b K a1 a2) H1
def iZips (K:PySem.W.Frag) (ta:TA):TI:=λσ H R=>ta σ H λvs H1=>∃ b a1 a2 xs ys,vs=[.ref a1,.ref a2]/\Sq b K H1 a1 xs/\Sq b K H1 a2 ys/\R (Itz b K a1 a2) H1
theorem boot_zip:bootBuiltins "zip"=some (.type "zip"):=by decide +kernel
theorem apart_new {n l1 l2:Nat} (h1:l1 < n) (h2:l2 < n):ZipApart (n+4) (n+2) (n+3) n (n+1) l1 l2:=by
 constructor<;>(show (_:Nat)≠_;omega)
theorem pi_zip {a c:Expr} {ta:TA} {p pos pt:Pos} {elts:List Expr} {kt:Nat} (hg:Gl X "zip") (hm:X.mg "zip"=none) (ha:PA X [a,c] ta) (hs:starEach [a,c] X.env=[(false,eval a X.env),(false,eval c X.env)]:=by rfl) (hs2:starEach [c] X.env=[(false,eval c X.env)]:=by rfl) :
   PI X (.Tuple elts kt pt) (.Call (.Name "zip" p) [a,c] [] pos) (iZips X.K ta):=by
 intro pins s σ H R I h
 refine Call_ (ld_blt I hg hm boot_zip (PyProof.Rows.callWith_type1 (thn (ha pos pins s σ H _ I h) λus s1 ⟨vs,H1,I1,r1,q1⟩=>?_) (by rw [hs,hs2]) (by rw [hs2];rfl)))
 obtain ⟨b,a1,a2,xs,ys,e,h1,h2,q⟩:=q1
 subst e
 obtain ⟨u,w',rfl,ru,rw⟩:=vals2 r1
 cases ru
 cases rw
 obtain ⟨us,_,p1⟩:=I1.sq h1
 obtain ⟨ws,_,p2⟩:=I1.sq h2
 refine call_zip_sq p1 p2 λh' z1 z2 z3 z4 z5 kk=>wpAny_pyIter_zip z1 ?_
 have fr:∀ b,s1.heap.objs.size <= b->FpOk X pins H1 b:=λb hb=>I1.fpOk hb (I1.hok.fresh hb)
 refine ⟨_,[s1.heap.objs.size+4,s1.heap.objs.size+2,s1.heap.objs.size+3,s1.heap.objs.size,s1.heap.objs.size+1],_,_,H1,rfl,I1.kept (t':=s1.toks) kk,turn_zip (apart_new p1.lt p2.lt),⟨z1,z2,⟨_,_,z3⟩,z4,z5⟩,λb hb=>fr b ?_,q⟩
 simp only [List.mem_cons,List.not_mem_nil,or_false] at hb
 rcases hb with rfl | rfl | rfl | rfl | rfl<;>omega
theorem for_zip {b:Bool} {K:PySem.W.Frag} {a1 a2:Addr} {xs ys:List V} {g:TG} {tb:TS} {D:Ends} {σ:St} {H:Hp} (hlen:xs.length=ys.length) (Pv:Nat->St->Hp->Prop) (h0:Pv 0 σ H) (hl:∀ i σ H,i <= xs.length->Pv i σ H->Sq b K H a1 xs/\Sq b K H a2 ys)
   (hs:∀ i x y T σ H,xs[i]?=some x->ys[i]?=some y->H T=none->Pv i σ H->g (.ref T) σ (upd H T (.tup [x,y])) λσ2 H2=>tb { D with nx:=Pv (i+1),ct:=Pv (i+1),bk:=D.nx } σ2 H2) (hd:∀ σ H,Pv xs.length σ H->D.nx σ H) :
   ∃ W:Nat->Nat->St->Hp->Prop,(∃ m,W 0 m σ H)/\∀ i m σ H,W i m σ H ->
     ((Itz b K a1 a2).stop i H/\D.nx σ H)\/((Itz b K a1 a2).go i H/\∃ N:St->Hp->Prop,(∀ σ' H',N σ' H'->∃ m',m' < m/\W (i+1) m' σ' H')/\∀ x H',(Itz b K a1 a2).yld i H x H'->g x σ H' λσ2 H2=>tb { D with nx:=N,ct:=N,bk:=D.nx } σ2 H2):=by
 refine ⟨λi m σ H=>m=xs.length - i/\i <= xs.length/\Pv i σ H,⟨xs.length,by simp,Nat.zero_le _,h0⟩,?_⟩
 rintro i m σ H ⟨rfl,hi,p⟩
 obtain ⟨q1,q2⟩:=hl i σ H hi p
 by_cases hlt:i < xs.length
 · have hlt2:i < ys.length:=by omega
   refine .inr ⟨⟨xs,ys,xs[i],ys[i],q1,q2,List.getElem?_eq_getElem hlt,List.getElem?_eq_getElem hlt2⟩,Pv (i+1),λσ' H' z=>⟨xs.length - (i+1),by omega,rfl,hlt,z⟩,?_⟩
   rintro v H' ⟨T,x,y,hT,rfl,rfl,hx,hy⟩
   exact hs i x y T σ H (hx _ q1) (hy _ q2) hT p
 · refine .inl ⟨⟨xs,q1,by omega⟩,hd σ H ?_⟩
   have e:i=xs.length:=by omega
   rw [← e];exact p
end
end L2

namespace L2
open PySem PySem.Spec PyProof.Rows
section
variable {X:Cx}
def tRevS (K:PySem.W.Frag) (te tk:TE):TE:=λσ H Q=>te σ H λx H1=>tk σ H1 λy H2=>y=.int (-1)/\∃ a xs,x=.ref a/\SqL K H2 a xs/\∀ p,H2 p=none->Q (.ref p) (upd H2 p (.lst xs.reverse))
theorem Vals.rev:∀ {xs:List V} {us:List Value},Vals xs us->Vals xs.reverse us.reverse
 | _,_,.nil=>.nil
 | x :: xs,u :: us,.cons r t=>by
   rw [List.reverse_cons,List.reverse_cons]
   exact (Vals.rev t).append (.cons r .nil)
theorem pe_slrev {e k:Expr} {te tk:TE} {p2 pos:Pos} (he:PE X e te) (hk:PE X k tk):PE X (.Subscript e (.Slice none none (some k) p2) pos) (tRevS X.K te tk):=by
 intro pins s σ H Q I h
 refine Subscript_ (thn (he pins s σ H _ I h) λv s1 ⟨x,H1,I1,r1,q1⟩=>?_)
 refine wpAny_Slice (wpAny_pure (wpAny_pure ?_))
 show wpAny _ _ (eval k X.env) _ _ _
 refine thn (hk pins s1 σ H1 _ I1 q1) λvk s3 ⟨y,H3,I3,pk,e3,a,xs,ea,hx,q⟩=>?_
 subst e3 ea
 obtain ⟨t,rfl⟩:=pk
 cases r1
 have I4:Inv X pins σ H3 { s3 with heap:=s3.heap.push { cls:=.type "slice",data:=.fields #[.none,.none,.int (-1) t] } }:=I3.kept (t':=s3.toks) λb ob q=>Heap.get?_push_of_some _ q
 obtain ⟨its,r,ht,hz⟩:=I4.list hx
 have hlen:=r.length
 show wpAny (model X.prog X.w) X.A (subscriptTail e (.Slice none none (some k) p2) (.ref a) (.ref s3.heap.objs.size)) (EP X pins σ Q) X.xe { s3 with heap:=s3.heap.push { cls:=.type "slice",data:=.fields #[.none,.none,.int (-1) t] } }
 refine tail_any (ops:=[.ref a,.ref s3.heap.objs.size]) ht.isList.typeIs slot_list_getitem.lookup ?_ (by with_unfolding_all rfl)
 refine wpAny_getItem_list_slice ht.isList (Heap.IsSliceOf.new ..) .none .none (.int (-1) t) (by decide) ?_ (by rw [List.size_toArray]<;>omega)
 rw [PySem.W.krv_pick]
 refine ⟨.ref _,_,I4.laid (t':=s3.toks) (o:=.lst xs.reverse) (λb ob q=>Heap.get?_push_of_some _ q) (Nat.le_refl _) ?_,rfl,q _ (I4.hok.fresh (Nat.le_refl _))⟩
 exact ⟨by rw [List.length_reverse];exact hz,its.reverse,0,Vals.rev r,Heap.get?_push_size _ rfl⟩
def rRemove:V->List V->Hp->VK->Prop:=λx vs H Q=>∃ (l:Addr) (ns:List Int) (i:Int),x=.ref l/\vs=[.int i]/\H l=some (.lst (ns.map V.int))/\i∈ns/\Q .non (upd H l (.lst ((ns.erase i).map V.int)))
theorem Vals.erase:∀ {xs:List V} {us:List Value} (j:Nat),Vals xs us->Vals (xs.eraseIdx j) (us.eraseIdx j)
 | _,_,_,.nil=>.nil
 | _,_,0,.cons _ t=>t
 | _,_,j+1,.cons r t=>.cons r (Vals.erase j t)
theorem vals_of:∀ {us:List Value} {ns:List Int},IntsAre us ns->Vals (ns.map V.int) us
 | _,_,.nil=>.nil
 | _,_,.cons n t r=>.cons ⟨t,rfl⟩ (vals_of r)
theorem bt_sorted:bootBuiltins "sorted"=some (.builtin "sorted"):=by decide +kernel
end
end L2

namespace L2
open PySem PySem.Spec PyProof.Rows
section
variable {X:Cx}
theorem items_ints {P:Program} {w:World}:∀ {vs:List (Key × Value)} {ns:List Int} {us:List Value},vs.map (·.1)=ns.map Sum.inl->us.length=vs.length ->
   (∀ (j:Nat) (u:Value),us[j]?=some u->∃ k x,vs[j]?=some (k,x)/\(mixKind P w).is k u=true)->IntsAre us ns
 | [],[],[],_,_,_=>.nil
 | [],[],_ :: _,_,h,_=>by cases h
 | [],_ :: _,_,h,_,_=>by cases h
 | _ :: _,[],_,h,_,_=>by cases h
 | _ :: _,_ :: _,[],_,h,_=>by cases h
 | (k,x) :: vs,n :: ns,u :: us,e,h,g=>by
   have e1:k=Sum.inl n:=by simpa using (List.cons.inj e).1
   subst e1
   have r:=items_ints (P:=P) (w:=w) (us:=us) (List.cons.inj e).2 (by simpa using h) λj u' hu=>by
     obtain ⟨k',x',q,q2⟩:=g (j+1) u' (by simpa using hu)
     exact ⟨k',x',by simpa using q,q2⟩
   obtain ⟨k',x',q,q2⟩:=g 0 u rfl
   cases q
   rcases keyIs_shape (show keyIs (Sum.inl n) u=true from q2) with ⟨i,t,e1,e2⟩ | ⟨y,t,e1,e2⟩
   · cases e1
     subst e2
     exact .cons _ t r
   · cases e1
theorem call_sortedD (hc:X.calm=true):CallR X (.builtin "sorted") (λxs H Q=>∃ (p:Addr) (kvs:List (Key × V)) (ns:List Int),xs=[.ref p]/\H p=some (.dK kvs)/\kvs.map (·.1)=ns.map Sum.inl/\ns.length < 64 /\
   ∀ (l:Addr) (ns':List Int),H l=none->ns'.Perm ns->ns'.Pairwise (· <= ·)->Q (.ref l) (upd H l (.lst (ns'.map V.int)))):=by
 intro pins s σ H xs us Q I r h
 obtain ⟨p,kvs,ns,rfl,hH,hk,h64,q⟩:=h
 obtain ⟨u,rfl,rx⟩:=vals1 r
 cases rx
 obtain ⟨z,hd,vs,rel,dd⟩:=dk_of I.hok hH
 have hl:=rel.length
 have hkv:vs.map (·.1)=ns.map Sum.inl:=by rw [← hk];exact rel.keys.symm
 have hln:ns.length=vs.length:=by
   have:=congrArg List.length hkv
   simpa using this.symm
 obtain ⟨ep,hat⟩:=dd.dictAt
 refine Calls.call_function_entry kind_sorted plain_sorted entry_sorted (args_sorted1 _) ?_
 unfold Builtin.«sorted»
 refine wpAny_bind (m:=checkCount "sorted" 1 1 _) (wpAny_pure ?_)
 refine wpAny_bind (PySem.W.kdu_collect (A:=X.A.in1) (PySem.W.kdl_dict (knd:=mixKind X.prog X.w) (kvs:=vs) (ep:=ep) hd) (I.ok.hd hc) hat (by omega) λh' tk acc hkp hacc=>?_)
 have I1:Inv X pins σ H { s with heap:=h',toks:=tk }:=I.kept (t':=tk) hkp
 have hal:acc.toList.length=vs.length:=by rw [Array.length_toList];exact hacc.1
 have hI:IntsAre acc.toList ns:=items_ints (P:=X.prog) (w:=X.w) hkv hal λj u hu=>by
   obtain ⟨k,x,e,g⟩:=hacc.2 j u (by rw [← Array.getElem?_toList];exact hu)
   exact ⟨k,x,e,g⟩
 refine wpAny_bind (wpAny_newList ?_ (by rw [hal];omega))
 have hoL:(h'.push (seqObj "list" acc.toList.toArray 0)).get? h'.objs.size=some (seqObj "list" acc.toList.toArray 0):=Heap.get?_push_size _ rfl
 show wpAny _ _ _ _ _ { s with heap:=h'.push (seqObj "list" acc.toList.toArray 0),toks:=tk }
 refine wpAny_bind (wpAny_holding (wpAny_call_entry slot_list_sort ⟨_,hoL,rfl⟩ entry_list_sort (list_sort_tree hoL hI (by omega) λout ns' a1 a2 a3=>⟨_,rfl,?_⟩) (args_list_sort _)))
 obtain ⟨e,he⟩:=sortedHeap_at (out:=out) hoL
 refine wpAny_pure ⟨_,rfl,.ref h'.objs.size,_,I1.laid (t':=tk) (o:=.lst (ns'.map V.int)) (λb o' q=>?_) (Nat.le_refl _) ?_,rfl,q _ _ (I1.hok.fresh (Nat.le_refl _)) a2 a3⟩
 · rw [sortedHeap_old (Nat.ne_of_lt (Heap.lt_size q)) (by rw [size_push'];exact Nat.lt_succ_of_lt (Heap.lt_size q))]
   exact Heap.get?_push_of_some _ q
 · exact ⟨by rw [List.length_map,a2.length_eq];omega,out.toList,e,vals_of a1,he⟩
end
end L2

namespace L2
open PySem PySem.Spec PyProof.Rows
theorem pyHash_none {prog:Program} {w:World} {A:Around} {E:Value->Shared->Prop} {s:Shared} {Q:Int->Shared->Prop} (h:Q 4238894112 { s with toks:=s.toks+1 }):wpAny (model prog w) A (pyHash .none) Q E s:=by
 have hT:s.TypeIs Value.none "NoneType":=rfl
 unfold pyHash
 have hv:[Value.none].any Value.onHeap=false:=rfl
 refine wpAny_bind ?_
 rw [cRoomFor,if_neg (by rw [hv];exact Bool.false_ne_true)];refine wpAny_pure ?_
 refine wpAny_bind (wpAny_specialOf hT PySem.F.slot_NoneType_hash.lookup ?_)
 show wpAny _ _ (if (some (Value.builtin "NoneType.__hash__") == some Value.none)=true then _ else _) Q E s
 rw [if_neg (by rw [beq_builtin_none];exact Bool.false_ne_true)]
 refine wpAny_bind (wpAny_specialOf hT PySem.F.slot_NoneType_hash.lookup ?_)
 show wpAny _ _ (callSpecialIfBoundUnlessNone? Value.none "__hash__" _ >>= _) Q E s
 refine wpAny_bind (wpAny_callSpecialIfBoundUnlessNone?_slot hT PySem.F.slot_NoneType_hash
   (wpAny_call_entry PySem.F.slot_NoneType_hash hT PySem.F.entry_NoneType_hash
     (show wpAny _ _ (do ret (← mkInt 4238894112)) _ _ s from wpAny_ret_mkInt ?_) (PySem.F.args_NoneType_hash_1 _)))
 show wpAny _ _ (if (decide (-(2:Int) ^ 63 <= 4238894112) && decide ((4238894112:Int) < 2 ^ 63))=true then _ else _) Q E _
 rw [if_pos (by decide)]
 exact wpAny_pure h
def optIs:Option Key->Value->Bool
 | none,.none=>true
 | none,_=>false
 | some k,v=>keyIs k v
theorem optIs_none {v:Value} (h:optIs none v=true):v=.none:=by
 cases v<;>first | rfl | cases h
def optKind (prog:Program) (w:World):PySem.KeyKind prog w (Option Key) where
 is:=optIs
 hash:=λk=>match k with
   | none=>4238894112
   | some k=>keyH w k
 inj:=λv a b ha hb=>by
   cases a with
   | none =>
     cases optIs_none ha
     cases b with
     | none=>rfl
     | some k=>rcases keyIs_shape (show keyIs k Value.none=true from hb) with ⟨i,t,_,e⟩ | ⟨x,t,_,e⟩<;>cases e
   | some k =>
     cases b with
     | none =>
       cases optIs_none hb
       rcases keyIs_shape (show keyIs k Value.none=true from ha) with ⟨i,t,_,e⟩ | ⟨x,t,_,e⟩<;>cases e
     | some k'=>rw [(mixKind prog w).inj v k k' ha hb]
 byValue:=λk v h=>by
   cases k with
   | none=>cases optIs_none h;rfl
   | some k=>exact (mixKind prog w).byValue k v h
 pyHash:=λ{A E s k v Q} hv h=>by
   cases k with
   | none=>cases optIs_none hv;exact pyHash_none h
   | some k=>exact (mixKind prog w).pyHash (k:=k) hv h
 eqBool:=λ{A E s a b u v Q} hu hv h=>by
   cases a with
   | none =>
     cases optIs_none hu
     cases b with
     | none=>cases optIs_none hv;exact SeqAt.EqAt.same Value.none _ _ _ _ h
     | some k =>
       rcases keyIs_shape (show keyIs k v=true from hv) with ⟨i,t,rfl,rfl⟩ | ⟨x,t,rfl,rfl⟩
       · exact SeqAt.EqAt.none_int i t _ _ _ _ h
       · exact SeqAt.EqAt.none_str x t _ _ _ _ h
   | some k =>
     cases b with
     | none =>
       cases optIs_none hv
       rcases keyIs_shape (show keyIs k u=true from hu) with ⟨i,t,rfl,rfl⟩ | ⟨x,t,rfl,rfl⟩
       · exact SeqAt.EqAt.int_none i t _ _ _ _ h
       · exact SeqAt.EqAt.str_none x t _ _ _ _ h
     | some k' =>
       refine (mixKind prog w).eqBool (a:=k) (b:=k') hu hv ?_
       have e:decide (some k=some k')=decide (k=k'):=by
         rw [decide_eq_decide];exact ⟨λz=>Option.some.inj z,λz=>by rw [z]⟩
       rw [← e];exact h
 «strs»:=λk x t v h=>by
   cases k with
   | none=>cases h
   | some k=>exact (mixKind prog w).strs k x t v h
theorem opt_pairs {P:Program} {w:World}:∀ {es:List DictEntry} {vs:List (Key × Value)},Pairs (mixKind P w) es vs->Pairs (optKind P w) es (vs.map λq=>(some q.1,q.2))
 | _,_,.nil=>.nil
 | _,_,.cons a b t=>.cons a b (opt_pairs t)
theorem opt_dict {P:Program} {w:World} {h:Heap} {a:Addr} {vs:List (Key × Value)} (d:h.DictOf (mixKind P w) a vs):h.DictOf (optKind P w) a (vs.map λq=>(some q.1,q.2)):=by
 obtain ⟨o,es,ep,h1,h2,h3,h4,h5,h6⟩:=d
 refine ⟨o,es,ep,h1,h2,h3,λe he=>?_,opt_pairs h5,?_⟩
 · obtain ⟨k,a,b⟩:=h4 e he
   exact ⟨some k,a,b⟩
 · rw [List.map_map]
   have:((λq:Option Key × Value=>q.1) ∘ λq:Key × Value=>(some q.1,q.2))=some ∘ (λq:Key × Value=>q.1):=rfl
   rw [this,← List.map_map]
   exact List.Pairwise.map _ (λa b n z=>n (Option.some.inj z)) h6
theorem opt_at:∀ (vs:List (Key × Value)),valueAt (vs.map λq=>(some q.1,q.2)) (none:Option Key)=none
 | []=>rfl
 | q :: vs=>by
   have:=opt_at vs
   unfold valueAt at this ⊢
   rw [List.map_cons,List.find?_cons]
   have e:decide (((some q.1,q.2):Option Key × Value).1=none)=false:=rfl
   rw [e]
   exact this
def tDPop2N (td ty tx:TE):TE:=λσ H Q=>td σ H λx H1=>∃ a,x=.ref a/\IsD H1 a/\ty σ H1 λy H2=>tx σ H2 λz H3=>∃ kvs,H3 a=some (.dK kvs) /\
 ((∃ k,y=kV k/\(∀ v,valV kvs k=some v->Q v (upd H3 a (.dK (dropK kvs k))))/\(valV kvs k=none->Q z H3))\/(y=.non/\Q z H3))
theorem pe_dpop2N {X:Cx} {o e f:Expr} {apos cpos:Pos} {td ty tx:TE} (ho:PE X o td) (he:PE X e ty) (hf:PE X f tx) (m:M2 X o "pop" apos e f cpos):PE X (.Call (.Attribute o "pop" apos) [e,f] [] cpos) (tDPop2N td ty tx):=by
 intro pins s σ H Q I h
 refine wpAny_Call_method m.base m.few m.line PySem.F.plainAttrs_dict PySem.F.slot_dict_pop PySem.F.type_dict_pop (thn (ho pins s σ H _ I h) λu s1 ⟨x,H1,I1,rx,a,ex,d,q1⟩=>?_)
 subst ex
 obtain rfl:u=Value.ref a:=rx
 obtain ⟨t1,t2,_⟩:=isD_at I1 d
 refine ⟨t1,t2,?_⟩
 rw [m.trees]
 refine Calls.callWith_builtin rfl (Calls.evalArgs_plain (Calls.spliced_cons (thn (he pins s1 σ H1 _ I1 q1) λiv s2 ⟨y,H2,I2,ry,q2⟩ =>
   Calls.spliced_cons (thn (hf pins s2 σ H2 _ I2 q2) λfv s3 ⟨z,H3,I3,rz,kvs,ea,q3⟩=>Calls.spliced_nil ?_))))
 rcases q3 with ⟨k,ey,q3,q4⟩ | ⟨ey,q4⟩
 · subst ey
   cases l:valV kvs k with
   | some v=>exact d_pop I3 ea ry l (.inr ⟨fv,rfl⟩) λw' s4 I4 rw'=>⟨v,_,I4,rw',q3 v l⟩
   | none=>exact d_popD I3 ea ry l λs4 I4=>⟨z,H3,I4,rz,q4 l⟩
 · subst ey
   cases ry
   obtain ⟨zz,hd,vs,rel,dd⟩:=dk_of I3.hok ea
   exact call_meetsIn PySem.F.slot_dict_pop dd.typeIs PySem.F.entry_dict_pop (PySem.F.args_dict_pop_3 _ _ _) (meets_dict_pop_default (optKind X.prog X.w) a (k:=none) (key:=Value.none) rfl hd rfl fv) ⟨_,opt_dict dd,opt_at vs,⟨z,H3,I3.tok _,rz,q4⟩⟩
end L2

namespace L2
open PySem PySem.Spec PyProof.Rows
theorem own_of {x hd rl:Addr} {l:Bool->Addr} {c:Addr} (hc:c=x\/c=hd\/c=rl\/∃ b,c=l b):Sto.own x hd rl l c:=by
 rcases hc with h | h | h | ⟨b',h⟩
 · exact .inl h
 · exact .inr (.inl h)
 · exact .inr (.inr (.inl h))
 · cases b'
   · exact .inr (.inr (.inr (.inl h)))
   · exact .inr (.inr (.inr (.inr h)))
theorem own_l {x hd rl:Addr} {l:Bool->Addr} (b:Bool):Sto.own x hd rl l (l b):=own_of (.inr (.inr (.inr ⟨b,rfl⟩)))
theorem own_hd {x hd rl:Addr} {l:Bool->Addr}:Sto.own x hd rl l hd:=.inr (.inl rfl)
theorem Sto.kp {w:World} {C:Addr} {H H':Hp} {x hd rl:Addr} {l:Bool->Addr} {M:List (PyData × V)} {r:Bool->List (PyData × V)} {xs:List Addr} (S:Sto w C H x hd rl l M r) (k:Kp xs H H') (h:∀ c∈xs,¬ Sto.own x hd rl l c) (ht:∀ c∈xs,∀ vs,H c≠some (.tup vs)):Sto w C H' x hd rl l M r :=
 S.keep (λc o hc e=>k c o (λz=>h c z (own_of hc)) e) λc vs e=>k c _ (λz=>ht c z vs e) e
theorem Kp.one {H:Hp} {c:Addr} {o:HO}:Kp [c] H (upd H c o):=λb u n e=>by rw [upd_ne λz=>n (List.mem_singleton.mpr z)];exact e
theorem fld {K:PySem.W.Frag} {H:Hp} {a C dx:Addr} {fs:List (Str × V)} {v:V} {f:Str} {Q:V->Prop} (hx:H a=some (.ins C dx fs)) (c:Cls K C) (na:NoAttr K C f) (l:fs.lookup f=some v) (q:Q v) :
   ∃ a' C' dx' fs' v',V.ref a=.ref a'/\H a'=some (.ins C' dx' fs')/\Cls K C'/\NoAttr K C' f/\fs'.lookup f=some v'/\Q v':=⟨a,C,dx,fs,v,rfl,hx,c,na,l,q⟩
structure RP where
 s:Int
 R:Int
 e:Bool
structure RP.Ok (p:RP):Prop where
 s0:0 < p.s
 s8:p.s <= 8
 sR:0 < p.s * p.R
structure SA where
 x:Addr
 hd:Addr
 rl:Addr
 l:Bool->Addr
abbrev SA.At (w:World) (C:Addr) (H:Hp) (z:SA) (M:List (PyData × V)) (r:Bool->List (PyData × V)):Prop:=Sto w C H z.x z.hd z.rl z.l M r
def SA.own (z:SA) (c:Addr):Prop:=Sto.own z.x z.hd z.rl z.l c
def rF (st:Addr) (b:Bool) (w0 w1 w2:Str) (p:RP):List (Str × V) :=
 putF "counter_first" (.bl p.e) (putF "rounds" (.int p.R) (putF "size" (.int p.s) (putF "fetched" (.str w2) (putF "laid" (.str w1) (putF "word" (.str w0) (putF "side" (.int (sdI b)) (putF "shelf" (.ref st) [])))))))
section
variable {st:Addr} {b:Bool} {w0 w1 w2:Str} {p:RP}
theorem rF_shelf:(rF st b w0 w1 w2 p).lookup ("shelf":Str)=some (.ref st):=by unfold rF;repeat (first | rw [lookup_putF,if_pos rfl] | rw [lookup_putF,if_neg (by decide +kernel)]);try rfl
theorem rF_side:(rF st b w0 w1 w2 p).lookup ("side":Str)=some (.int (sdI b)):=by unfold rF;repeat (first | rw [lookup_putF,if_pos rfl] | rw [lookup_putF,if_neg (by decide +kernel)]);try rfl
theorem rF_word:(rF st b w0 w1 w2 p).lookup ("word":Str)=some (.str w0):=by unfold rF;repeat (first | rw [lookup_putF,if_pos rfl] | rw [lookup_putF,if_neg (by decide +kernel)]);try rfl
theorem rF_laid:(rF st b w0 w1 w2 p).lookup ("laid":Str)=some (.str w1):=by unfold rF;repeat (first | rw [lookup_putF,if_pos rfl] | rw [lookup_putF,if_neg (by decide +kernel)]);try rfl
theorem rF_fetched:(rF st b w0 w1 w2 p).lookup ("fetched":Str)=some (.str w2):=by unfold rF;repeat (first | rw [lookup_putF,if_pos rfl] | rw [lookup_putF,if_neg (by decide +kernel)]);try rfl
theorem rF_size:(rF st b w0 w1 w2 p).lookup ("size":Str)=some (.int p.s):=by unfold rF;repeat (first | rw [lookup_putF,if_pos rfl] | rw [lookup_putF,if_neg (by decide +kernel)]);try rfl
theorem rF_rounds:(rF st b w0 w1 w2 p).lookup ("rounds":Str)=some (.int p.R):=by unfold rF;repeat (first | rw [lookup_putF,if_pos rfl] | rw [lookup_putF,if_neg (by decide +kernel)]);try rfl
theorem rF_first:(rF st b w0 w1 w2 p).lookup ("counter_first":Str)=some (.bl p.e):=by unfold rF;repeat (first | rw [lookup_putF,if_pos rfl] | rw [lookup_putF,if_neg (by decide +kernel)]);try rfl
theorem rF_filled:(rF st b w0 w1 w2 p).lookup ("filled":Str)=none:=by unfold rF;repeat (first | rw [lookup_putF,if_pos rfl] | rw [lookup_putF,if_neg (by decide +kernel)]);try rfl
theorem rF_full:(rF st b w0 w1 w2 p).lookup ("is_full":Str)=none:=by unfold rF;repeat (first | rw [lookup_putF,if_pos rfl] | rw [lookup_putF,if_neg (by decide +kernel)]);try rfl
theorem rF_place:(rF st b w0 w1 w2 p).lookup ("place_at":Str)=none:=by unfold rF;repeat (first | rw [lookup_putF,if_pos rfl] | rw [lookup_putF,if_neg (by decide +kernel)]);try rfl
theorem rF_further:(rF st b w0 w1 w2 p).lookup ("write_further":Str)=none:=by unfold rF;repeat (first | rw [lookup_putF,if_pos rfl] | rw [lookup_putF,if_neg (by decide +kernel)]);try rfl
theorem rF_lay:(rF st b w0 w1 w2 p).lookup ("lay":Str)=none:=by unfold rF;repeat (first | rw [lookup_putF,if_pos rfl] | rw [lookup_putF,if_neg (by decide +kernel)]);try rfl
theorem rF_fetch:(rF st b w0 w1 w2 p).lookup ("fetch":Str)=none:=by unfold rF;repeat (first | rw [lookup_putF,if_pos rfl] | rw [lookup_putF,if_neg (by decide +kernel)]);try rfl
end
def Rn (CR:Addr) (H:Hp) (q st:Addr) (b:Bool) (w0 w1 w2:Str) (p:RP):Prop:=∃ dx,H q=some (.ins CR dx (rF st b w0 w1 w2 p))
def gK (ns:List Int):List (Key × V):=ns.map λi=>(.inl i,.bl true)
theorem gK_val (i:Int):∀ ns:List Int,valV (gK ns) (.inl i)=if ns.contains i then some (.bl true) else none
 | []=>rfl
 | n :: ns=>by
   by_cases h:n=i
   · subst h
     show valV ((Sum.inl n,V.bl true) :: gK ns) _=_
     rw [valV_pos rfl,List.contains_cons];simp
   · show valV ((Sum.inl n,V.bl true) :: gK ns) _=_
     rw [valV_neg (λz=>h (Sum.inl.inj z)),gK_val i ns,List.contains_cons]
     have:(i == n)=false:=by simpa using λz=>h z.symm
     rw [this];rfl
theorem gK_put (i:Int) (ns:List Int) (h:ns.contains i=false):putK (gK ns) (.inl i) (.bl true)=gK (ns++[i]):=by
 unfold putK
 rw [valV_any,gK_val,h]
 simp [gK]
theorem gK_put' (i:Int) (ns:List Int) (h:ns.contains i=true):putK (gK ns) (.inl i) (.bl true)=gK ns:=by
 unfold putK
 rw [valV_any,gK_val,h]
 simp only [if_true,Option.isSome_some]
 unfold gK
 rw [List.map_map]
 refine List.map_congr_left λx _=>?_
 show (if Sum.inl x=Sum.inl i then _ else _)=_
 split<;>rfl
theorem gK_drop (i:Int):∀ ns:List Int,dropK (gK ns) (.inl i)=gK (ns.filter (λn=>decide (n≠i)))
 | []=>rfl
 | n :: ns=>by
   have ih:=gK_drop i ns
   unfold dropK gK at ih ⊢
   rw [List.map_cons,List.filter_cons,List.filter_cons,ih]
   have e:decide (((Sum.inl n,V.bl true):Key × V).1≠Sum.inl i)=decide (n≠i):=by
     by_cases h:n=i
     · subst h;simp
     · have:(Sum.inl n:Key)≠Sum.inl i:=λz=>h (Sum.inl.inj z)
       simp [h,this]
   rw [e]
   split<;>rfl
theorem gK_len (ns:List Int):(gK ns).length=ns.length:=by unfold gK;rw [List.length_map]
def gNext (ns:List Int) (i:Int):List Int:=if ns.contains i then ns else ns++[i]
theorem gK_next (i:Int) (ns:List Int):putK (gK ns) (.inl i) (.bl true)=gK (gNext ns i):=by
 unfold gNext
 cases h:ns.contains i with
 | true=>rw [gK_put' i ns h];rfl
 | false=>rw [gK_put i ns h];rfl
structure HA where
 h:Addr
 ra:Addr
 rb:Addr
 gd:Addr
def hF (z:HA) (n:Int):List (Str × V):=putF "going" (.ref z.gd) (putF "names" (.int n) (putF "answers" (.ref z.rb) (putF "asks" (.ref z.ra) [])))
section
variable {z:HA} {n:Int}
theorem hF_asks:(hF z n).lookup ("asks":Str)=some (.ref z.ra):=by unfold hF;repeat (first | rw [lookup_putF,if_pos rfl] | rw [lookup_putF,if_neg (by decide +kernel)]);try rfl
theorem hF_answers:(hF z n).lookup ("answers":Str)=some (.ref z.rb):=by unfold hF;repeat (first | rw [lookup_putF,if_pos rfl] | rw [lookup_putF,if_neg (by decide +kernel)]);try rfl
theorem hF_names:(hF z n).lookup ("names":Str)=some (.int n):=by unfold hF;repeat (first | rw [lookup_putF,if_pos rfl] | rw [lookup_putF,if_neg (by decide +kernel)]);try rfl
theorem hF_going:(hF z n).lookup ("going":Str)=some (.ref z.gd):=by unfold hF;repeat (first | rw [lookup_putF,if_pos rfl] | rw [lookup_putF,if_neg (by decide +kernel)]);try rfl
theorem hF_least:(hF z n).lookup ("least_free":Str)=none:=by unfold hF;repeat (first | rw [lookup_putF,if_pos rfl] | rw [lookup_putF,if_neg (by decide +kernel)]);try rfl
theorem hF_check:(hF z n).lookup ("check_ask":Str)=none:=by unfold hF;repeat (first | rw [lookup_putF,if_pos rfl] | rw [lookup_putF,if_neg (by decide +kernel)]);try rfl
theorem hF_ask:(hF z n).lookup ("ask":Str)=none:=by unfold hF;repeat (first | rw [lookup_putF,if_pos rfl] | rw [lookup_putF,if_neg (by decide +kernel)]);try rfl
theorem hF_collect:(hF z n).lookup ("collect":Str)=none:=by unfold hF;repeat (first | rw [lookup_putF,if_pos rfl] | rw [lookup_putF,if_neg (by decide +kernel)]);try rfl
theorem hF_under:(hF z n).lookup ("under_way":Str)=none:=by unfold hF;repeat (first | rw [lookup_putF,if_pos rfl] | rw [lookup_putF,if_neg (by decide +kernel)]);try rfl
end
structure Hn (CH CR:Addr) (H:Hp) (z:HA) (st:Addr) (p:RP) (n:Int) (aw:List Int):Prop where
 ob:∃ dx,H z.h=some (.ins CH dx (hF z n))
 ra:Rn CR H z.ra st false "ask" "asked" "taken" p
 rb:Rn CR H z.rb st false "answer" "answered" "handed" p
 go:H z.gd=some (.dK (gK aw))
def HA.own (z:HA) (c:Addr):Prop:=c=z.h\/c=z.ra\/c=z.rb\/c=z.gd
structure TA' where
 h:Addr
 ra:Addr
 rb:Addr
 gd:Addr
def tF (z:TA'):List (Str × V):=putF "doing" (.ref z.gd) (putF "answers" (.ref z.rb) (putF "asks" (.ref z.ra) []))
section
variable {z:TA'}
theorem tF_asks:(tF z).lookup ("asks":Str)=some (.ref z.ra):=by unfold tF;repeat (first | rw [lookup_putF,if_pos rfl] | rw [lookup_putF,if_neg (by decide +kernel)]);try rfl
theorem tF_answers:(tF z).lookup ("answers":Str)=some (.ref z.rb):=by unfold tF;repeat (first | rw [lookup_putF,if_pos rfl] | rw [lookup_putF,if_neg (by decide +kernel)]);try rfl
theorem tF_doing:(tF z).lookup ("doing":Str)=some (.ref z.gd):=by unfold tF;repeat (first | rw [lookup_putF,if_pos rfl] | rw [lookup_putF,if_neg (by decide +kernel)]);try rfl
theorem tF_take:(tF z).lookup ("take":Str)=none:=by unfold tF;repeat (first | rw [lookup_putF,if_pos rfl] | rw [lookup_putF,if_neg (by decide +kernel)]);try rfl
theorem tF_check:(tF z).lookup ("check_answer":Str)=none:=by unfold tF;repeat (first | rw [lookup_putF,if_pos rfl] | rw [lookup_putF,if_neg (by decide +kernel)]);try rfl
theorem tF_answer:(tF z).lookup ("answer":Str)=none:=by unfold tF;repeat (first | rw [lookup_putF,if_pos rfl] | rw [lookup_putF,if_neg (by decide +kernel)]);try rfl
theorem tF_tasks:(tF z).lookup ("tasks":Str)=none:=by unfold tF;repeat (first | rw [lookup_putF,if_pos rfl] | rw [lookup_putF,if_neg (by decide +kernel)]);try rfl
end
structure Tn (CT CR:Addr) (H:Hp) (z:TA') (st:Addr) (p:RP) (ts:List Int):Prop where
 ob:∃ dx,H z.h=some (.ins CT dx (tF z))
 ra:Rn CR H z.ra st true "ask" "asked" "taken" p
 rb:Rn CR H z.rb st true "answer" "answered" "handed" p
 go:H z.gd=some (.dK (gK ts))
def TA'.own (z:TA') (c:Addr):Prop:=c=z.h\/c=z.ra\/c=z.rb\/c=z.gd
section
variable {CH CT CR:Addr} {H H':Hp} {st:Addr} {p:RP} {n:Int} {aw:List Int}
theorem Rn.keep {q:Addr} {b:Bool} {w0 w1 w2:Str} (r:Rn CR H q st b w0 w1 w2 p) (k:∀ o,H q=some o->H' q=some o):Rn CR H' q st b w0 w1 w2 p:=by
 obtain ⟨dx,hx⟩:=r
 exact ⟨dx,k _ hx⟩
theorem Hn.keep {z:HA} (B:Hn CH CR H z st p n aw) (k:∀ c o,z.own c->H c=some o->H' c=some o):Hn CH CR H' z st p n aw:=by
 obtain ⟨dx,hx⟩:=B.ob
 exact ⟨⟨dx,k _ _ (.inl rfl) hx⟩,B.ra.keep λo=>k _ o (.inr (.inl rfl)),B.rb.keep λo=>k _ o (.inr (.inr (.inl rfl))),k _ _ (.inr (.inr (.inr rfl))) B.go⟩
theorem Hn.same {z:HA} (B:Hn CH CR H z st p n aw) (q:Same H H'):Hn CH CR H' z st p n aw:=B.keep λc o _=>q c o
theorem Hn.there {z:HA} (B:Hn CH CR H z st p n aw) {c:Addr} (hc:z.own c):∃ o,H c=some o/\((∃ C dx fs,o=.ins C dx fs)\/∃ kvs,o=.dK kvs):=by
 rcases hc with rfl | rfl | rfl | rfl
 · obtain ⟨dx,hx⟩:=B.ob;exact ⟨_,hx,.inl ⟨_,_,_,rfl⟩⟩
 · obtain ⟨dx,hx⟩:=B.ra;exact ⟨_,hx,.inl ⟨_,_,_,rfl⟩⟩
 · obtain ⟨dx,hx⟩:=B.rb;exact ⟨_,hx,.inl ⟨_,_,_,rfl⟩⟩
 · exact ⟨_,B.go,.inr ⟨_,rfl⟩⟩
theorem Hn.lists {z:HA} {xs:List Addr} (B:Hn CH CR H z st p n aw) (k:Kp xs H H') (hx:∀ c∈xs,(∃ ys,H c=some (.lst ys))\/∃ ee:List DictEntry × Nat,H c=some (DObj c ee.1 ee.2)):Hn CH CR H' z st p n aw :=
 B.keep λc o hc q=>k c o (λm=>by
   obtain ⟨o',e,s⟩:=B.there hc
   rcases hx c m with ⟨ys,e'⟩ | ⟨ee,e'⟩
   · rw [e] at e';cases e'
     rcases s with ⟨_,_,_,s⟩ | ⟨_,s⟩<;>cases s
   · rw [e] at e';cases e'
     rcases s with ⟨_,_,_,s⟩ | ⟨_,s⟩<;>cases s) q
theorem Tn.keep {z:TA'} (B:Tn CT CR H z st p aw) (k:∀ c o,z.own c->H c=some o->H' c=some o):Tn CT CR H' z st p aw:=by
 obtain ⟨dx,hx⟩:=B.ob
 exact ⟨⟨dx,k _ _ (.inl rfl) hx⟩,B.ra.keep λo=>k _ o (.inr (.inl rfl)),B.rb.keep λo=>k _ o (.inr (.inr (.inl rfl))),k _ _ (.inr (.inr (.inr rfl))) B.go⟩
theorem Tn.same {z:TA'} (B:Tn CT CR H z st p aw) (q:Same H H'):Tn CT CR H' z st p aw:=B.keep λc o _=>q c o
theorem Tn.there {z:TA'} (B:Tn CT CR H z st p aw) {c:Addr} (hc:z.own c):∃ o,H c=some o/\((∃ C dx fs,o=.ins C dx fs)\/∃ kvs,o=.dK kvs):=by
 rcases hc with rfl | rfl | rfl | rfl
 · obtain ⟨dx,hx⟩:=B.ob;exact ⟨_,hx,.inl ⟨_,_,_,rfl⟩⟩
 · obtain ⟨dx,hx⟩:=B.ra;exact ⟨_,hx,.inl ⟨_,_,_,rfl⟩⟩
 · obtain ⟨dx,hx⟩:=B.rb;exact ⟨_,hx,.inl ⟨_,_,_,rfl⟩⟩
 · exact ⟨_,B.go,.inr ⟨_,rfl⟩⟩
theorem Tn.lists {z:TA'} {xs:List Addr} (B:Tn CT CR H z st p aw) (k:Kp xs H H') (hx:∀ c∈xs,(∃ ys,H c=some (.lst ys))\/∃ ee:List DictEntry × Nat,H c=some (DObj c ee.1 ee.2)):Tn CT CR H' z st p aw :=
 B.keep λc o hc q=>k c o (λm=>by
   obtain ⟨o',e,s⟩:=B.there hc
   rcases hx c m with ⟨ys,e'⟩ | ⟨ee,e'⟩
   · rw [e] at e';cases e'
     rcases s with ⟨_,_,_,s⟩ | ⟨_,s⟩<;>cases s
   · rw [e] at e';cases e'
     rcases s with ⟨_,_,_,s⟩ | ⟨_,s⟩<;>cases s) q
end
def least (n:Nat) (aw:List Int):Option Int:=(List.range n).map (λ(k:Nat)=>(k:Int)) |>.find? λk=>!aw.contains k
theorem least_some {n i:Nat} {aw:List Int} (hi:i < n) (h:aw.contains (i:Int)=false) (hno:∀ j < i,aw.contains (j:Int)=true):least n aw=some (i:Int):=by
 unfold least
 rw [List.find?_eq_some_iff_getElem]
 refine ⟨by rw [h];rfl,i,by simpa using hi,by simp,λj hj=>?_⟩
 simp only [List.getElem_map,List.getElem_range]
 rw [hno j hj];rfl
theorem least_none {n:Nat} {aw:List Int} (hno:∀ j < n,aw.contains (j:Int)=true):least n aw=none:=by
 unfold least
 rw [List.find?_eq_none]
 intro x hx
 obtain ⟨j,hj,rfl⟩:=List.mem_map.mp hx
 rw [hno j (List.mem_range.mp hj)];decide
theorem least_free {n:Nat} {aw:List Int} {k:Int} (h:least n aw=some k):aw.contains k=false:=by
 unfold least at h
 have:=List.find?_some h
 simpa using this
theorem least_lt {n:Nat} {aw:List Int} {k:Int} (h:least n aw=some k):0 <= k/\k < n:=by
 unfold least at h
 have:=List.mem_of_find?_eq_some h
 obtain ⟨j,hj,rfl⟩:=List.mem_map.mp this
 have:=List.mem_range.mp hj
 omega
theorem inV_str (i:Str):∀ ns:List Str,inV (.str i) (ns.map V.str)=ns.contains i
 | []=>rfl
 | n :: ns=>by
   have ih:=inV_str i ns
   unfold inV at ih ⊢
   rw [List.map_cons,List.any_cons,ih,List.contains_cons]
   congr 1
   show eqV (.str n) (.str i)=(i == n)
   simp only [eqV]
   rw [Bool.eq_iff_iff,beq_iff_eq,beq_iff_eq]
   exact eq_comm
theorem strs_flat:∀ ns:List Str,(ns.map V.str).all flatV=true
 | []=>rfl
 | n :: ns=>by rw [List.map_cons,List.all_cons,strs_flat ns];rfl
theorem setR_twice {α:Type} {r:Bool->α} {b:Bool} {u v:α}:setR (setR r b u) b v=setR r b v:=by
 funext c;unfold setR;split<;>rfl
theorem kS {H:Hp} {t:Str} (h:PyData.strOk t=true):KeyV H (.str t) (.str t):=⟨h,by show 0 <= 8;decide,rfl,.inl ⟨_,rfl⟩⟩
theorem kT {H:Hp} {a:Addr} {t:Str} {i:Int} (h:PyData.strOk t=true) (ha:H a=some (.tup [.str t,.int i])):KeyV H (.tuple [.str t,.int i]) (.ref a):=⟨by
 show (PyData.strOk _ && (true && true))=true
 rw [h];rfl,by show 1 <= 8;decide,⟨a,_,rfl,ha,⟨_,_,rfl,rfl,_,_,rfl,rfl,rfl⟩⟩,.inr ⟨_,rfl⟩⟩
theorem up1 {H:Hp} {a b:Addr} {o:HO} (h:upd H a o b=none):b≠a/\H b=none:=by
 have n:b≠a:=λz=>by rw [z,upd_same] at h;cases h
 exact ⟨n,by rw [upd_ne n] at h;exact h⟩
theorem none_back {H H':Hp} {c:Addr} (e:Same H H') (h:H' c=none):H c=none:=by
 cases z:H c with
 | none=>rfl
 | some o=>rw [e c o z] at h;cases h
theorem none_kp {H H':Hp} {xs:List Addr} {c:Addr} (e:Kp xs H H') (h:H' c=none) (n:∀ x∈xs,H' x≠none):H c=none:=by
 cases z:H c with
 | none=>rfl
 | some o=>rw [e c o (λm=>n c m h) z] at h;cases h
def layRow (p:RP) (w0 w1:Str) (A:Int) (t:V):List (PyData × V) :=
 if p.e then [(.str w1,.int ((A+1) % (p.s * p.R))),(.tuple [.str w0,.int (A % p.s)],t)] else [(.tuple [.str w0,.int (A % p.s)],t),(.str w1,.int ((A+1) % (p.s * p.R)))]
theorem Sto.noT {w:World} {C:Addr} {H:Hp} {x hd rl:Addr} {l:Bool->Addr} {M:List (PyData × V)} {r:Bool->List (PyData × V)} (S:Sto w C H x hd rl l M r) {b:Bool} {c:Addr} {vs:List V} (h:H c=some (.tup vs)):c ∉ [l b]:=λz=>by
 obtain ⟨ts,e,_⟩:=S.rw b
 rw [List.mem_singleton.mp z,e] at h;cases h
theorem Sto.noI {w:World} {C:Addr} {H:Hp} {x hd rl:Addr} {l:Bool->Addr} {M:List (PyData × V)} {r:Bool->List (PyData × V)} (S:Sto w C H x hd rl l M r) {b:Bool} {c C' dx:Addr} {fs:List (Str × V)} (h:H c=some (.ins C' dx fs)):c ∉ [l b]:=λz=>by
 obtain ⟨ts,e,_⟩:=S.rw b
 rw [List.mem_singleton.mp z,e] at h;cases h
theorem Sto.noD {w:World} {C:Addr} {H:Hp} {x hd rl:Addr} {l:Bool->Addr} {M:List (PyData × V)} {r:Bool->List (PyData × V)} (S:Sto w C H x hd rl l M r) {c:Addr} {kvs:List (Key × V)} (h:H c=some (.dK kvs)):¬ Sto.own x hd rl l c:=λz=>by
 rcases z with rfl | rfl | rfl | rfl | rfl
 · obtain ⟨dx,e⟩:=S.ob;rw [e] at h;cases h
 · obtain ⟨es,e⟩:=S.me.there;rw [e] at h;cases h
 · rw [S.ro] at h;cases h
 · obtain ⟨ts,e,_⟩:=S.rw false;rw [e] at h;cases h
 · obtain ⟨ts,e,_⟩:=S.rw true;rw [e] at h;cases h
theorem mthE {H:Hp} {a C:Addr} {fs:List (Str × V)} {m:Str} {q:Prop} (hx:∃ dx,H a=some (.ins C dx fs)) (l:fs.lookup m=none) (h:q) :
   ∃ a' dx' fs',V.ref a=.ref a'/\H a'=some (.ins C dx' fs')/\fs'.lookup m=none/\q:=let ⟨dx,hx⟩:=hx;⟨a,dx,fs,rfl,hx,l,h⟩
structure HB (w:World) (CH CR CS:Addr) (H:Hp) (z:HA) (sa:SA) (p:RP) (n:Int) (aw:List Int) (M:List (PyData × V)) (r:Bool->List (PyData × V)):Prop where
 hn:Hn CH CR H z sa.x p n aw
 so:sa.At w CS H M r
def HB.own (z:HA) (sa:SA) (c:Addr):Prop:=sa.own c\/z.own c
section
variable {w:World} {CH CR CS:Addr} {H H':Hp} {z:HA} {sa:SA} {p:RP} {n:Int} {aw:List Int} {M:List (PyData × V)} {r:Bool->List (PyData × V)}
theorem HB.keep (B:HB w CH CR CS H z sa p n aw M r) (k:∀ c o,HB.own z sa c->H c=some o->H' c=some o) (ht:∀ b vs,H b=some (.tup vs)->H' b=some (.tup vs)):HB w CH CR CS H' z sa p n aw M r :=
 ⟨B.hn.keep λc o hc=>k c o (.inr hc),B.so.keep (λc o hc=>k c o (.inl (own_of hc))) ht⟩
theorem HB.same (B:HB w CH CR CS H z sa p n aw M r) (q:Same H H'):HB w CH CR CS H' z sa p n aw M r:=B.keep (λc o _=>q c o) λb vs=>q b _
theorem HB.there (B:HB w CH CR CS H z sa p n aw M r) {c:Addr} (hc:HB.own z sa c):∃ o,H c=some o/\∀ vs,o≠.tup vs:=by
 rcases hc with hc | hc
 · exact B.so.there hc
 · obtain ⟨o,e,⟨_,_,_,s⟩ | ⟨_,s⟩⟩:=B.hn.there hc
   · exact ⟨o,e,λvs z=>by rw [z] at s;cases s⟩
   · exact ⟨o,e,λvs z=>by rw [z] at s;cases s⟩
theorem HB.kp {xs:List Addr} (B:HB w CH CR CS H z sa p n aw M r) (k:Kp xs H H') (hx:∀ c∈xs,¬ HB.own z sa c) (ht:∀ c∈xs,∀ vs,H c≠some (.tup vs)):HB w CH CR CS H' z sa p n aw M r :=
 B.keep (λc o hc q=>k c o (λz=>hx c z hc) q) λb vs q=>k b _ (λz=>ht b z vs q) q
end
structure TB (w:World) (CT CR CS:Addr) (H:Hp) (z:TA') (sa:SA) (p:RP) (aw:List Int) (M:List (PyData × V)) (r:Bool->List (PyData × V)):Prop where
 tn:Tn CT CR H z sa.x p aw
 so:sa.At w CS H M r
def TB.own (z:TA') (sa:SA) (c:Addr):Prop:=sa.own c\/z.own c
section
variable {w:World} {CT CR CS:Addr} {H H':Hp} {z:TA'} {sa:SA} {p:RP} {aw:List Int} {M:List (PyData × V)} {r:Bool->List (PyData × V)}
theorem TB.keep (B:TB w CT CR CS H z sa p aw M r) (k:∀ c o,TB.own z sa c->H c=some o->H' c=some o) (ht:∀ b vs,H b=some (.tup vs)->H' b=some (.tup vs)):TB w CT CR CS H' z sa p aw M r :=
 ⟨B.tn.keep λc o hc=>k c o (.inr hc),B.so.keep (λc o hc=>k c o (.inl (own_of hc))) ht⟩
theorem TB.same (B:TB w CT CR CS H z sa p aw M r) (q:Same H H'):TB w CT CR CS H' z sa p aw M r:=B.keep (λc o _=>q c o) λb vs=>q b _
theorem TB.there (B:TB w CT CR CS H z sa p aw M r) {c:Addr} (hc:TB.own z sa c):∃ o,H c=some o/\∀ vs,o≠.tup vs:=by
 rcases hc with hc | hc
 · exact B.so.there hc
 · obtain ⟨o,e,⟨_,_,_,s⟩ | ⟨_,s⟩⟩:=B.tn.there hc
   · exact ⟨o,e,λvs z=>by rw [z] at s;cases s⟩
   · exact ⟨o,e,λvs z=>by rw [z] at s;cases s⟩
theorem TB.kp {xs:List Addr} (B:TB w CT CR CS H z sa p aw M r) (k:Kp xs H H') (hx:∀ c∈xs,¬ TB.own z sa c) (ht:∀ c∈xs,∀ vs,H c≠some (.tup vs)):TB w CT CR CS H' z sa p aw M r :=
 B.keep (λc o hc q=>k c o (λz=>hx c z hc) q) λb vs q=>k b _ (λz=>ht b z vs q) q
end
def RD (H:Hp) (p:PyData × V) (d:PyData):Prop:=∃ x,d=.tuple [p.1,x]/\DV H x p.2
theorem rows_dvs {H:Hp}:∀ {es:List (PyData × V)} {ts:List V} {ds:List PyData},Paired (Wt H) es ts->Paired (RD H) es ds->DVs H ds ts
 | _,_,_,.nil,.nil=>rfl
 | _,_,_,.cons ⟨t,cv,e,ht,hk⟩ r,.cons ⟨x,e',dx⟩ r'=>by
   subst e e'
   exact ⟨_,_,rfl,⟨t,_,rfl,ht,_,_,rfl,hk.2.2.1,_,_,rfl,dx,rfl⟩,rows_dvs r r'⟩
theorem keyed_lay0:∀ {ds:List PyData},(∀ d∈ds,MX.kd d=true/\d.depth <= 9)->PyData.canLayAll0 ds=true/\PyData.depthAll ds <= 9
 | [],_=>⟨rfl,Nat.zero_le _⟩
 | d :: ds,h=>by
   obtain ⟨a,b⟩:=keyed_lay0 λu hu=>h u (List.mem_cons_of_mem _ hu)
   have hd:=h d List.mem_cons_self
   refine ⟨?_,?_⟩
   · show (PyData.canLay0 d && PyData.canLayAll0 ds)=true
     rw [MX.kd_lay _ hd.1,a];rfl
   · show max d.depth (PyData.depthAll ds) <= 9
     have:=hd.2
     omega
theorem new_hand {H H':Hp} {h dh:Addr} {C:Addr} (nh:H h=none) (ndh:H dh=none) (kp:Kp [h] (upd (upd H dh (.own h)) h (.ins C dh [])) H'):Same H H':=λc o e=>by
 have y1:=ne_of_none e ndh
 have y2:=ne_of_none e nh
 exact kp c o (λz=>y2 (List.mem_singleton.mp z)) (by rw [upd_ne y2,upd_ne y1];exact e)
theorem len0v:([]:List V).length <= sizeLine:=by show 0 <= sizeLine;decide
theorem kx_tt {K:PySem.W.Frag}:PySem.W.kitOne K (.type "tuple") (.type "tuple")=some true:=by rfl
theorem kx_it {K:PySem.W.Frag}:PySem.W.kitOne K (.type "int") (.type "tuple")=some false:=by rfl
end L2

namespace L2
open PySem PySem.Spec PyProof.Rows
inductive Cn where
 | asked | taken | answered | handed | hs | ts
instance:DecidableEq Cn:=λa b=>by
 cases a<;>cases b<;>first | exact isTrue rfl | exact isFalse (λh=>by cases h)
def Cn.key:Cn->Str
 | .asked=>"asked"
 | .taken=>"taken"
 | .answered=>"answered"
 | .handed=>"handed"
 | .hs=>"hand sleeps"
 | .ts=>"heart sleeps"
def gWord:Bool->Str
 | false=>"ask"
 | true=>"answer"
def pk (g:Bool) (i:Int):PyData:=.tuple [.str (gWord g),.int i]
inductive Wr where
 | c (k:Cn) (i:Int)
 | p (g:Bool) (i nm wt:Int)
def Wr.key:Wr->PyData
 | .c k _=>.str k.key
 | .p g i _ _=>pk g i
def Wr.dat:Wr->PyData
 | .c _ i=>.int i
 | .p _ _ nm wt=>.tuple [.int nm,.int wt]
def Wr.Ok:Wr->Prop
 | .c _ _=>True
 | .p _ i nm _=>(0 <= i/\i < 8)/\0 <= nm/\nm < 9
def Wr.cnt (k:Cn):Wr->Option Int
 | .c k' i=>if k'=k then some i else none
 | .p _ _ _ _=>none
def Wr.plc (g:Bool) (i:Int):Wr->Option (Int × Int)
 | .c _ _=>none
 | .p g' i' nm wt=>if g'=g/\i'=i then some (nm,wt) else none
structure Mem where
 c:Cn->Int
 p:Bool->Int->Option (Int × Int)
def Mem.zero:Mem:=⟨λ_=>0,λ_ _=>none⟩
def Mem.put (m:Mem) (x:Wr):Mem:=⟨λk=>(x.cnt k).getD (m.c k),λg i=>(x.plc g i).or (m.p g i)⟩
def rdC (m:Mem) (row:List Wr) (k:Cn):Int:=(row.reverse.findSome? (Wr.cnt k)).getD (m.c k)
def rdP (m:Mem) (row:List Wr) (g:Bool) (i:Int):Option (Int × Int):=(row.reverse.findSome? (Wr.plc g i)).or (m.p g i)
theorem rdC_snoc (m:Mem) (row:List Wr) (x:Wr) (k:Cn):rdC m (row++[x]) k=(x.cnt k).getD (rdC m row k):=by
 unfold rdC
 rw [List.reverse_append]
 show (List.findSome? (Wr.cnt k) (x :: row.reverse)).getD (m.c k)=_
 rw [List.findSome?_cons]
 cases Wr.cnt k x<;>rfl
theorem rdP_snoc (m:Mem) (row:List Wr) (x:Wr) (g:Bool) (i:Int):rdP m (row++[x]) g i=(x.plc g i).or (rdP m row g i):=by
 unfold rdP
 rw [List.reverse_append]
 show (List.findSome? (Wr.plc g i) (x :: row.reverse)).or (m.p g i)=_
 rw [List.findSome?_cons]
 cases Wr.plc g i x<;>rfl
theorem cn_ok (k:Cn):PyData.strOk k.key=true:=by cases k<;>decide +kernel
theorem gw_ok (g:Bool):PyData.strOk (gWord g)=true:=by cases g<;>decide +kernel
theorem cn_inj {k k':Cn} (h:k.key=k'.key):k=k':=by
 cases k<;>cases k'<;>first | rfl | exact absurd h (by decide +kernel)
theorem gw_inj {g g':Bool} (h:gWord g=gWord g'):g=g':=by
 cases g<;>cases g'<;>first | rfl | exact absurd h (by decide +kernel)
theorem pk_kd (g:Bool) (i:Int):MX.kd (pk g i)=true:=by
 show (PyData.strOk (gWord g) && (true && true))=true
 rw [gw_ok];rfl
theorem cn_kd (k:Cn):MX.kd (.str k.key)=true:=cn_ok k
theorem Wr.key_kd (x:Wr):MX.kd x.key=true:=by
 cases x with
 | c k i=>exact cn_kd k
 | p g i nm wt=>exact pk_kd g i
theorem Wr.dat_kd (x:Wr):MX.kd x.dat=true:=by cases x<;>rfl
theorem pk_inj {g g':Bool} {i i':Int} (h:pk g i=pk g' i'):g=g'/\i=i':=by
 injection h with h
 injection h with h1 h2
 injection h1 with h1
 injection h2 with h2 _
 injection h2 with h2
 exact ⟨gw_inj h1,h2⟩
theorem eqv_key {x:Wr} {d:PyData} (hd:MX.kd d=true):PyData.eqv x.key d=true ↔ x.key=d:=MX.eqv_iff _ _ x.key_kd hd
theorem Wr.cnt_some {x:Wr} {k:Cn} {i:Int} (h:x.cnt k=some i):x=.c k i:=by
 cases x with
 | c k' j =>
   unfold Wr.cnt at h
   dsimp only at h
   split at h
   · rename_i e;cases e;cases h;rfl
   · cases h
 | p=>cases h
theorem Wr.plc_some {x:Wr} {g:Bool} {i nm wt:Int} (h:x.plc g i=some (nm,wt)):x=.p g i nm wt:=by
 cases x with
 | c=>cases h
 | p g' j a b =>
   unfold Wr.plc at h
   dsimp only at h
   split at h
   · rename_i e;obtain ⟨e1,e2⟩:=e;cases e1;cases e2;cases h;rfl
   · cases h
theorem Wr.cnt_none {x:Wr} {k:Cn} (h:x.cnt k=none):x.key≠.str k.key:=by
 intro e
 cases x with
 | c k' j =>
   have:=cn_inj (PyData.str.inj e)
   unfold Wr.cnt at h
   dsimp only at h
   rw [if_pos this] at h;cases h
 | p=>cases e
theorem Wr.plc_none {x:Wr} {g:Bool} {i:Int} (h:x.plc g i=none):x.key≠pk g i:=by
 intro e
 cases x with
 | c=>cases e
 | p g' j a b =>
   have:=pk_inj e
   unfold Wr.plc at h
   dsimp only at h
   rw [if_pos this] at h;cases h
def WrR (H:Hp) (x:Wr) (q:PyData × V):Prop:=x.Ok/\q.1=x.key/\DV H x.dat q.2
theorem WrR.keep {H H':Hp} {x:Wr} {q:PyData × V} (h:WrR H x q) (ht:∀ b vs,H b=some (.tup vs)->H' b=some (.tup vs)):WrR H' x q:=⟨h.1,h.2.1,DV.keep ht _ _ x.dat_kd h.2.2⟩
def allKeys:List PyData:=[.str (Cn.key .asked),.str (Cn.key .taken),.str (Cn.key .answered),.str (Cn.key .handed),.str (Cn.key .hs),.str (Cn.key .ts),
 pk false 0,pk false 1,pk false 2,pk false 3,pk false 4,pk false 5,pk false 6,pk false 7,pk true 0,pk true 1,pk true 2,pk true 3,pk true 4,pk true 5,pk true 6,pk true 7]
theorem Wr.key_all {x:Wr} (h:x.Ok):x.key∈allKeys:=by
 cases x with
 | c k i=>cases k<;>simp [Wr.key,allKeys]
 | p g i a b =>
   have h':0 <= i/\i < 8:=h.1
   have:i=0\/i=1\/i=2\/i=3\/i=4\/i=5\/i=6\/i=7:=by omega
   rcases this with rfl | rfl | rfl | rfl | rfl | rfl | rfl | rfl<;>cases g<;>simp [Wr.key,allKeys]
theorem nodup_le {α:Type} [DecidableEq α]:∀ {l ks:List α},l.Nodup->(∀ a∈l,a∈ks)->l.length <= ks.length
 | [],_,_,_=>Nat.zero_le _
 | a :: l,ks,h,hs=>by
   have ha:=hs a List.mem_cons_self
   have hn:=List.nodup_cons.mp h
   have:=nodup_le (l:=l) (ks:=ks.erase a) hn.2 λb hb=>(List.mem_erase_of_ne (λe=>hn.1 (by rw [← e];exact hb))).mpr (hs b (List.mem_cons_of_mem _ hb))
   rw [List.length_erase_of_mem ha] at this
   have h0:0 < ks.length:=List.length_pos_of_mem ha
   rw [List.length_cons];omega
structure MemR (H:Hp) (M:List (PyData × V)) (m:Mem):Prop where
 c:∀ k:Cn,(lookD M (.str k.key)).getD (.int 0)=.int (m.c k)
 p:∀ g i,(m.p g i=none/\lookD M (pk g i)=none)\/∃ nm wt v,m.p g i=some (nm,wt)/\lookD M (pk g i)=some v/\DV H (.tuple [.int nm,.int wt]) v
 ks:∀ q∈M,q.1∈allKeys
 ok:∀ g i nm wt,m.p g i=some (nm,wt)->0 <= nm/\nm < 9
theorem allKeys_kd:∀ d∈allKeys,MX.kd d=true:=by
 intro d hd
 simp only [allKeys,List.mem_cons,List.not_mem_nil,or_false] at hd
 rcases hd with rfl | rfl | rfl | rfl | rfl | rfl | rfl | rfl | rfl | rfl | rfl | rfl | rfl | rfl | rfl | rfl | rfl | rfl | rfl | rfl | rfl | rfl<;>first | exact cn_kd _ | exact pk_kd _ _
theorem MemR.kk {H:Hp} {M:List (PyData × V)} {m:Mem} (h:MemR H M m):KK M:=λq hq=>allKeys_kd _ (h.ks q hq)
theorem MemR.zero {H:Hp}:MemR H [] Mem.zero:=⟨λ_=>rfl,λ_ _=>.inl ⟨rfl,rfl⟩,λ_ h=>(by cases h),λ_ _ _ _ h=>(by cases h)⟩
theorem MemR.keep {H H':Hp} {M:List (PyData × V)} {m:Mem} (h:MemR H M m) (ht:∀ b vs,H b=some (.tup vs)->H' b=some (.tup vs)):MemR H' M m :=
 ⟨h.c,λg i=>(h.p g i).imp id λ⟨nm,wt,v,a,b,c⟩=>⟨nm,wt,v,a,b,DV.keep ht _ _ rfl c⟩,h.ks,h.ok⟩
theorem put_ks {M:List (PyData × V)} {k:PyData} {v:V} {K:List PyData} (h:∀ q∈M,q.1∈K) (hk:k∈K):∀ q∈putD M k v,q.1∈K:=by
 intro q hq
 unfold putD at hq
 split at hq
 · obtain ⟨p,hp,e⟩:=List.mem_map.mp hq
   have:=h p hp
   rw [← e]
   split<;>exact this
 · rcases List.mem_append.mp hq with z | z
   · exact h q z
   · rw [List.mem_singleton.mp z];exact hk
theorem MemR.put {H:Hp} {M:List (PyData × V)} {m:Mem} {x:Wr} {q:PyData × V} (h:MemR H M m) (hx:WrR H x q):MemR H (putD M q.1 q.2) (m.put x):=by
 obtain ⟨ho,hk,hd⟩:=hx
 refine ⟨λk=>?_,λg i=>?_,put_ks h.ks (by rw [hk];exact Wr.key_all ho),λg i nm wt e=>?_⟩
 · rw [hk,look_put h.kk x.key_kd (cn_kd k)]
   unfold Mem.put
   dsimp only
   cases e:x.cnt k with
   | some i =>
     have ex:=Wr.cnt_some e
     subst ex
     rw [if_pos (show PyData.eqv (Wr.key (.c k i)) (.str k.key)=true from eqv_self (cn_kd k))]
     exact hd
   | none =>
     rw [if_neg λz=>Wr.cnt_none e ((eqv_key (cn_kd k)).mp z)]
     exact h.c k
 · rw [hk,look_put h.kk x.key_kd (pk_kd g i)]
   unfold Mem.put
   dsimp only
   cases e:x.plc g i with
   | some nw =>
     have ex:=Wr.plc_some (nm:=nw.1) (wt:=nw.2) e
     subst ex
     rw [if_pos (show PyData.eqv (Wr.key (.p g i nw.1 nw.2)) (pk g i)=true from eqv_self (pk_kd g i))]
     exact .inr ⟨nw.1,nw.2,q.2,rfl,rfl,hd⟩
   | none =>
     rw [if_neg λz=>Wr.plc_none e ((eqv_key (pk_kd g i)).mp z)]
     exact h.p g i
 · have e':(x.plc g i).or (m.p g i)=some (nm,wt):=e
   cases q:x.plc g i with
   | none=>rw [q] at e';exact h.ok g i nm wt e'
   | some nw =>
     rw [q] at e'
     cases e'
     have ex:=Wr.plc_some q
     subst ex
     exact ho.2
theorem Paired.rev {α β:Type} {F:α->β->Prop}:∀ {xs:List α} {ys:List β},Paired F xs ys->Paired F xs.reverse ys.reverse
 | _,_,.nil=>.nil
 | _,_,.cons r t=>by
   rw [List.reverse_cons,List.reverse_cons]
   exact Paired.snoc (Paired.rev t) r
theorem find_c {H:Hp} {k:Cn}:∀ {row:List Wr} {es:List (PyData × V)},Paired (WrR H) row es ->
   (es.find? λp=>PyData.eqv p.1 (.str k.key)).map (·.2)=(row.findSome? (Wr.cnt k)).map V.int
 | _,_,.nil=>rfl
 | x :: row,q :: es,.cons ⟨_,hk,hd⟩ t=>by
   rw [List.find?_cons,List.findSome?_cons]
   cases e:x.cnt k with
   | some i =>
     have ex:=Wr.cnt_some e
     subst ex
     have:PyData.eqv q.1 (.str k.key)=true:=by rw [hk];exact eqv_self (cn_kd k)
     rw [this]
     show some q.2=some (V.int i)
     exact congrArg some hd
   | none =>
     have:PyData.eqv q.1 (.str k.key)=false:=by
       rw [hk]
       cases z:PyData.eqv x.key (.str k.key) with
       | false=>rfl
       | true=>exact absurd ((eqv_key (cn_kd k)).mp z) (Wr.cnt_none e)
     rw [this]
     exact find_c t
theorem find_p {H:Hp} {g:Bool} {i:Int}:∀ {row:List Wr} {es:List (PyData × V)},Paired (WrR H) row es ->
   (row.findSome? (Wr.plc g i)=none/\(es.find? λp=>PyData.eqv p.1 (pk g i))=none)\/∃ nm wt q,row.findSome? (Wr.plc g i)=some (nm,wt)/\(es.find? λp=>PyData.eqv p.1 (pk g i))=some q/\DV H (.tuple [.int nm,.int wt]) q.2
 | _,_,.nil=>.inl ⟨rfl,rfl⟩
 | x :: row,q :: es,.cons ⟨_,hk,hd⟩ t=>by
   rw [List.find?_cons,List.findSome?_cons]
   cases e:x.plc g i with
   | some nw =>
     have ex:=Wr.plc_some (nm:=nw.1) (wt:=nw.2) e
     subst ex
     have:PyData.eqv q.1 (pk g i)=true:=by rw [hk];exact eqv_self (pk_kd g i)
     rw [this]
     exact .inr ⟨nw.1,nw.2,q,rfl,rfl,hd⟩
   | none =>
     have:PyData.eqv q.1 (pk g i)=false:=by
       rw [hk]
       cases z:PyData.eqv x.key (pk g i) with
       | false=>rfl
       | true=>exact absurd ((eqv_key (pk_kd g i)).mp z) (Wr.plc_none e)
     rw [this]
     exact find_p t
theorem readV_c {H:Hp} {M es:List (PyData × V)} {m:Mem} {row:List Wr} (h:MemR H M m) (r:Paired (WrR H) row es) (k:Cn):readV M es (.str k.key)=.int (rdC m row k):=by
 rw [readV_eq]
 unfold lastW rdC
 rw [find_c (Paired.rev r)]
 cases row.reverse.findSome? (Wr.cnt k) with
 | some i=>rfl
 | none=>exact h.c k
theorem readV_p {H:Hp} {M es:List (PyData × V)} {m:Mem} {row:List Wr} (h:MemR H M m) (r:Paired (WrR H) row es) (g:Bool) (i:Int) :
   (rdP m row g i=none/\readV M es (pk g i)=.int 0)\/∃ nm wt c,rdP m row g i=some (nm,wt)/\readV M es (pk g i)=.ref c/\H c=some (.tup [.int nm,.int wt]):=by
 rw [readV_eq]
 unfold lastW rdP
 have tup:∀ {nm wt:Int} {v:V},DV H (.tuple [.int nm,.int wt]) v->∃ c,v=.ref c/\H c=some (.tup [.int nm,.int wt]):=λ{nm wt v} h=>by
   obtain ⟨c,vs,e,hc,v1,r1,e1,d1,v2,r2,e2,d2,e3⟩:=h
   cases d1;cases d2;cases e3;subst e2 e1
   exact ⟨c,e,hc⟩
 rcases find_p (g:=g) (i:=i) (Paired.rev r) with ⟨e1,e2⟩ | ⟨nm,wt,q,e1,e2,d⟩
 · rw [e1,e2]
   rcases h.p g i with ⟨a,b⟩ | ⟨nm,wt,v,a,b,c⟩
   · rw [a,b];exact .inl ⟨rfl,rfl⟩
   · rw [a,b]
     obtain ⟨c',rfl,hc⟩:=tup c
     exact .inr ⟨nm,wt,c',rfl,rfl,hc⟩
 · rw [e1,e2]
   obtain ⟨c',e,hc⟩:=tup d
   exact .inr ⟨nm,wt,c',rfl,by show q.2=_;exact e,hc⟩
theorem find_ok {H:Hp} {g:Bool} {i nm wt:Int}:∀ {row:List Wr} {es:List (PyData × V)},Paired (WrR H) row es->row.findSome? (Wr.plc g i)=some (nm,wt)->0 <= nm/\nm < 9
 | _,_,.nil,h=>by cases h
 | x :: row,_,.cons hx t,h=>by
   rw [List.findSome?_cons] at h
   cases q:x.plc g i with
   | none=>rw [q] at h;exact find_ok t h
   | some nw =>
     rw [q] at h
     cases h
     have ex:=Wr.plc_some q
     subst ex
     exact hx.1.2
theorem rdP_ok {H:Hp} {M es:List (PyData × V)} {m:Mem} {row:List Wr} (h:MemR H M m) (r:Paired (WrR H) row es) {g:Bool} {i nm wt:Int} (e:rdP m row g i=some (nm,wt)):0 <= nm/\nm < 9:=by
 unfold rdP at e
 cases q:row.reverse.findSome? (Wr.plc g i) with
 | none=>rw [q] at e;exact h.ok g i nm wt e
 | some nw =>
   rw [q] at e
   cases e
   exact find_ok (Paired.rev r) q
def StT (w:World) (C:Addr) (H:Hp) (sa:SA) (m:Mem) (rs:Bool->List Wr):Prop:=∃ M r,sa.At w C H M r/\MemR H M m/\∀ b,Paired (WrR H) (rs b) (r b)
section
variable {w:World} {C:Addr} {H H':Hp} {sa:SA} {m:Mem} {rs:Bool->List Wr}
theorem StT.keep (S:StT w C H sa m rs) (h:∀ c o,sa.own c->H c=some o->H' c=some o) (ht:∀ b vs,H b=some (.tup vs)->H' b=some (.tup vs)):StT w C H' sa m rs:=by
 obtain ⟨M,r,S,R,P⟩:=S
 exact ⟨M,r,S.keep (λc o hc=>h c o (own_of hc)) ht,R.keep ht,λb=>Paired.mapP (P b) λ_ _ q=>q.keep ht⟩
theorem StT.same (S:StT w C H sa m rs) (h:Same H H'):StT w C H' sa m rs:=S.keep (λc o _=>h c o) λb vs=>h b _
theorem StT.there (S:StT w C H sa m rs) {c:Addr} (h:sa.own c):∃ o,H c=some o/\(∀ xs,o≠.tup xs):=by
 obtain ⟨M,r,S,_⟩:=S
 exact S.there h
theorem StT.kp {xs:List Addr} (S:StT w C H sa m rs) (k:Kp xs H H') (h:∀ c∈xs,¬ sa.own c) (ht:∀ c∈xs,∀ vs,H c≠some (.tup vs)):StT w C H' sa m rs :=
 S.keep (λc o hc e=>k c o (λz=>h c z hc) e) λc vs e=>k c _ (λz=>ht c z vs e) e
theorem StT.ob (S:StT w C H sa m rs):∃ dx,H sa.x=some (.ins C dx (stF sa.hd sa.rl)):=by
 obtain ⟨M,r,S,_⟩:=S
 exact S.ob
theorem StT.names (S:StT w C H sa m rs) {b g:Bool} {i nm wt:Int} (e:rdP m (rs b) g i=some (nm,wt)):0 <= nm/\nm < 9:=by
 obtain ⟨M,r,S,R,P⟩:=S
 exact rdP_ok R (P b) e
theorem StT.small {M:List (PyData × V)} {r:Bool->List (PyData × V)} (S:sa.At w C H M r) (R:MemR H M m):M.length <= 22:=by
 obtain ⟨es,ep,_,_,nd,_⟩:=S.me
 have:=@nodup_le PyData (λa b=>Classical.propDecidable (a=b)) _ allKeys nd λd hd=>by
   obtain ⟨q,hq,rfl⟩:=List.mem_map.mp hd
   exact R.ks q hq
 rw [List.length_map] at this
 exact this
end
theorem paired_app {α β:Type} {F:α->β->Prop}:∀ {xs:List α} {ys:List β} {xs':List α} {ys':List β},Paired F xs ys->Paired F xs' ys'->Paired F (xs++xs') (ys++ys')
 | _,_,_,_,.nil,t=>t
 | _,_,_,_,.cons r t,t'=>.cons r (paired_app t t')
theorem StT.grow {w:World} {C:Addr} {H H':Hp} {sa:SA} {m:Mem} {rs:Bool->List Wr} {M:List (PyData × V)} {r:Bool->List (PyData × V)} {b:Bool} {ws:List Wr} {es:List (PyData × V)} (R:MemR H M m) (P:∀ b,Paired (WrR H) (rs b) (r b)) (S2:sa.At w C H' M (setR r b (r b++es))) (ht:∀ c vs,H c=some (.tup vs)->H' c=some (.tup vs)) (hn:Paired (WrR H') ws es):StT w C H' sa m (setR rs b (rs b++ws)):=by
 refine ⟨M,_,S2,R.keep ht,λc=>?_⟩
 by_cases e:c=b
 · subst e
   rw [setR_same,setR_same]
   exact paired_app (Paired.mapP (P c) λ_ _ q=>q.keep ht) hn
 · rw [setR_ne e,setR_ne e]
   exact Paired.mapP (P c) λ_ _ q=>q.keep ht
def aheadT (p:RP) (m:Mem) (row:List Wr) (a b:Cn):Int:=(rdC m row a - rdC m row b) % (p.s * p.R)
def nextT (p:RP) (m:Mem) (row:List Wr) (a:Cn):Wr:=.c a ((rdC m row a+1) % (p.s * p.R))
def layT (p:RP) (m:Mem) (row:List Wr) (g:Bool) (a:Cn) (nm wt:Int):List Wr :=
 if p.e then [nextT p m row a,.p g (rdC m row a % p.s) nm wt] else [.p g (rdC m row a % p.s) nm wt,nextT p m row a]
theorem lay_rows {H:Hp} {p:RP} {m:Mem} {row:List Wr} {g:Bool} {a:Cn} {nm wt:Int} {t:Addr} (hp:p.Ok) (hn:0 <= nm/\nm < 9) (ht:H t=some (.tup [.int nm,.int wt])):Paired (WrR H) (layT p m row g a nm wt) (layRow p (gWord g) a.key (rdC m row a) (.ref t)):=by
 have h1:WrR H (.p g (rdC m row a % p.s) nm wt) (.tuple [.str (gWord g),.int (rdC m row a % p.s)],.ref t):=by
   have a1:=Int.emod_nonneg (rdC m row a) (show p.s≠0 by have:=hp.s0;omega)
   have a2:=Int.emod_lt_of_pos (rdC m row a) hp.s0
   have:=hp.s8
   exact ⟨⟨⟨a1,by omega⟩,hn⟩,rfl,⟨t,_,rfl,ht,_,_,rfl,rfl,_,_,rfl,rfl,rfl⟩⟩
 have h2:WrR H (nextT p m row a) (.str a.key,.int ((rdC m row a+1) % (p.s * p.R))):=⟨trivial,rfl,rfl⟩
 unfold layT layRow
 cases p.e with
 | true=>exact .cons h2 (.cons h1 .nil)
 | false=>exact .cons h1 (.cons h2 .nil)
end L2

namespace L2
open PySem PySem.Spec PyProof.Rows
def cxComp2 (X:Cx) (scope:Scope) (cl:List (Str × Addr)) (C:Addr) (x x2:Str) (N':List Str) (s₃:Shared) (H₃:Hp) (pins:List (Addr × Obj)) (ex:List Addr) (E':Value->Shared->Prop):Cx :=
 { X with N:=N',s₀:=s₃,H₀:=H₃,env:=compEnvC scope cl C X.env,outer:=X.stack,stack:=X.stack,ex:=ex,fn:=λy=>y == x || y == x2,pn:=X.pn++pins,xe:=E' }
abbrev testsOf (ifs:List Expr) (env:Env):Sem Bool:=forIn ifs true λc r=>if r=true then do
 let ok ← isTrue c env (eval c env)
 pure (ForInStep.yield ok) else pure (ForInStep.yield r)
def tComp2 (wi:TI) (g:TG) (js:List Nat) (tc:TT) (te:TE):TE:=λσ H Q=>wi σ H λJ H1=>∀ D,H1 D=none->∃ W:Nat->Nat->List V->Hp->Prop,(∃ m,W 0 m [] (upd H1 D (.lst []))) /\
 ∀ i m ys H2,W i m ys H2->H2 D=some (.lst ys)/\ys.length < sizeLine/\((J.stop i H2/\Q (.ref D) H2)\/(J.go i H2/\∀ x H3,J.yld i H2 x H3->∀ v0 v1:Option V,
   g x (v0 :: v1 :: capt σ js) H3 λσ' H'=>∃ v0' v1',σ'=v0' :: v1' :: capt σ js/\tc σ' H' λb H4=>if b=true then te σ' H4 λy H5=>H5 D=some (.lst ys)/\∃ m',m' < m/\W (i+1) m' (ys++[y]) (upd H5 D (.lst (ys++[y])))
     else ∃ m',m' < m/\W (i+1) m' ys H4))
section
variable {X:Cx} {scope:Scope} {cl:List (Str × Addr)} {x x2:Str} {N':List Str}
end
end L2

namespace L2
open PySem PySem.Spec PyProof.Rows
structure LA where
 sd:Addr
 md:Addr
 rw:Addr
 l:Bool->Addr
 ud:Addr
 tk:Addr
def lsK (la:LA) (p:RP) (n:Int):List (Key × V):=[(.inr "size",.int p.s),(.inr "rounds",.int p.R),(.inr "names",.int n),(.inr "early",.bl p.e),(.inr "memory",.ref la.md),(.inr "rows",.ref la.rw),(.inr "under",.ref la.ud),(.inr "tasks",.ref la.tk)]
section
variable {H:Hp} {la:LA} {p:RP} {n:Int}
end
def RowT (H:Hp) (l:Addr) (row:List Wr):Prop:=∃ ts es,H l=some (.lst ts)/\Paired (Wt H) es ts/\Paired (WrR H) row es
theorem RowT.keep {H H':Hp} {l:Addr} {row:List Wr} (h:RowT H l row) (hl:∀ o,H l=some o->H' l=some o) (ht:∀ b vs,H b=some (.tup vs)->H' b=some (.tup vs)):RowT H' l row:=by
 obtain ⟨ts,es,a,b,c⟩:=h
 exact ⟨ts,es,hl _ a,Paired.mapP b λ_ _ q=>q.keep ht,Paired.mapP c λ_ _ q=>q.keep ht⟩
theorem RowT.same {H H':Hp} {l:Addr} {row:List Wr} (h:RowT H l row) (s:Same H H'):RowT H' l row:=h.keep (λo=>s _ o) λb vs=>s b _
theorem RowT.data {H:Hp} {l:Addr} {row:List Wr} (h:RowT H l row):DV H (.list (row.map λx=>.tuple [x.key,x.dat])) (.ref l):=by
 obtain ⟨ts,es,a,b,c⟩:=h
 refine ⟨l,ts,rfl,a,rows_dvs b ?_⟩
 clear a b
 induction c with
 | nil=>exact .nil
 | cons hx t ih =>
   obtain ⟨_,hk,hd⟩:=hx
   exact .cons ⟨_,by rw [hk],hd⟩ ih
structure LS (w:World) (H:Hp) (la:LA) (p:RP) (n:Int) (m:Mem) (rs:Bool->List Wr) (un tk:List Int):Prop where
 sd:H la.sd=some (.dK (lsK la p n))
 me:∃ M,MD w H la.md M/\MemR H M m
 ro:H la.rw=some (.lst [.ref (la.l false),.ref (la.l true)])
 rw:∀ b,RowT H (la.l b) (rs b)
 ud:H la.ud=some (.lst (un.map V.int))
 tk:H la.tk=some (.lst (tk.map V.int))
 nl:la.l false≠la.l true
 nr:∀ b,la.l b≠la.rw
 nu:∀ b,la.l b≠la.ud
 nt:∀ b,la.l b≠la.tk
 nut:la.ud≠la.tk
 nru:la.rw≠la.ud
 nrt:la.rw≠la.tk
def LA.own (la:LA) (c:Addr):Prop:=c=la.sd\/c=la.md\/c=la.rw\/c=la.l false\/c=la.l true\/c=la.ud\/c=la.tk
theorem LA.own_l {la:LA} (b:Bool):la.own (la.l b):=by
 cases b
 · exact .inr (.inr (.inr (.inl rfl)))
 · exact .inr (.inr (.inr (.inr (.inl rfl))))
section
variable {w:World} {H H':Hp} {la:LA} {p:RP} {n:Int} {m:Mem} {rs:Bool->List Wr} {un tk:List Int}
theorem LS.keep (L:LS w H la p n m rs un tk) (k:∀ c o,la.own c->H c=some o->H' c=some o) (ht:∀ b vs,H b=some (.tup vs)->H' b=some (.tup vs)):LS w H' la p n m rs un tk:=by
 obtain ⟨M,hM,R⟩:=L.me
 exact ⟨k _ _ (.inl rfl) L.sd,⟨M,hM.keepS (λo=>k _ o (.inr (.inl rfl))) ht,R.keep ht⟩,k _ _ (.inr (.inr (.inl rfl))) L.ro,λb=>(L.rw b).keep (λo=>k _ o (LA.own_l b)) ht,k _ _ (.inr (.inr (.inr (.inr (.inr (.inl rfl)))))) L.ud,k _ _ (.inr (.inr (.inr (.inr (.inr (.inr rfl)))))) L.tk,L.nl,L.nr,L.nu,L.nt,L.nut,L.nru,L.nrt⟩
theorem LS.same (L:LS w H la p n m rs un tk) (s:Same H H'):LS w H' la p n m rs un tk:=L.keep (λc o _=>s c o) λb vs=>s b _
theorem LS.there (L:LS w H la p n m rs un tk) {c:Addr} (h:la.own c):∃ o,H c=some o/\(∀ xs,o≠.tup xs):=by
 rcases h with rfl | rfl | rfl | rfl | rfl | rfl | rfl
 · exact ⟨_,L.sd,λ_ z=>by cases z⟩
 · obtain ⟨M,hM,_⟩:=L.me
   obtain ⟨ee,e⟩:=hM.there
   exact ⟨_,e,λ_ z=>by cases z⟩
 · exact ⟨_,L.ro,λ_ z=>by cases z⟩
 · obtain ⟨ts,_,e,_⟩:=L.rw false;exact ⟨_,e,λ_ z=>by cases z⟩
 · obtain ⟨ts,_,e,_⟩:=L.rw true;exact ⟨_,e,λ_ z=>by cases z⟩
 · exact ⟨_,L.ud,λ_ z=>by cases z⟩
 · exact ⟨_,L.tk,λ_ z=>by cases z⟩
theorem LS.kp {xs:List Addr} (L:LS w H la p n m rs un tk) (k:Kp xs H H') (h:∀ c∈xs,¬ la.own c) (ht:∀ c∈xs,∀ vs,H c≠some (.tup vs)):LS w H' la p n m rs un tk :=
 L.keep (λc o hc e=>k c o (λz=>h c z hc) e) λc vs e=>k c _ (λz=>ht c z vs e) e
theorem LS.names (L:LS w H la p n m rs un tk) {b g:Bool} {i nm wt:Int} (e:rdP m (rs b) g i=some (nm,wt)):0 <= nm/\nm < 9:=by
 obtain ⟨M,_,R⟩:=L.me
 obtain ⟨ts,es,_,_,h2⟩:=L.rw b
 exact rdP_ok R h2 e
theorem LS.mem (L:LS w H la p n m rs un tk) {M:List (PyData × V)} {m':Mem} (g1:∀ c,c≠la.md->H' c=H c) (g2:MD w H' la.md M) (R:MemR H' M m'):LS w H' la p n m' rs un tk:=by
 obtain ⟨M0,hM,_⟩:=L.me
 obtain ⟨ee,hmd⟩:=hM.there
 have up:∀ {c:Addr} {o:HO},H c=some o->(∀ e:List DictEntry × Nat,o≠DObj la.md e.1 e.2)->H' c=some o:=λ{c o} e hn=>by
   rw [g1 c λz=>by rw [z,hmd] at e;exact hn ee (Option.some.inj e).symm];exact e
 have ht:∀ b vs,H b=some (.tup vs)->H' b=some (.tup vs):=λb vs e=>up e λ_ z=>by cases z
 exact ⟨up L.sd λ_ z=>(by cases z),⟨M,g2,R⟩,up L.ro λ_ z=>(by cases z),λb=>(L.rw b).keep (λo q=>by
   obtain ⟨ts,es,e,_⟩:=L.rw b
   rw [e] at q
   cases q
   exact up e λ_ z=>by cases z) ht,up L.ud λ_ z=>(by cases z),up L.tk λ_ z=>(by cases z),L.nl,L.nr,L.nu,L.nt,L.nut,L.nru,L.nrt⟩
theorem up_ne {c x:Addr} {o:HO} {xs ys:List V} (h:H c=some o) (hx:H x=some (.lst xs)) (hn:∀ ys,o≠.lst ys):upd H x (.lst ys) c=some o:=by
 rw [upd_ne λe=>by rw [e,hx] at h;exact hn xs (Option.some.inj h).symm];exact h
theorem LS.tups {x:Addr} {xs ys:List V} (hx:H x=some (.lst xs)):∀ b vs,H b=some (.tup vs)->upd H x (.lst ys) b=some (.tup vs):=λb vs e=>up_ne e hx λys z=>by cases z
theorem LS.row (L:LS w H la p n m rs un tk) (b:Bool) {ts:List V} {es:List (PyData × V)} {row:List Wr} (h1:Paired (Wt H) es ts) (h2:Paired (WrR H) row es):LS w (upd H (la.l b) (.lst ts)) la p n m (setR rs b row) un tk:=by
 obtain ⟨ts0,es0,hl,_⟩:=L.rw b
 have ht:=LS.tups (ys:=ts) hl
 obtain ⟨M,hM,R⟩:=L.me
 obtain ⟨ee,hmd⟩:=hM.there
 refine ⟨up_ne L.sd hl λys z=>(by cases z),⟨M,hM.keepS (λo e=>?_) ht,R.keep ht⟩,by rw [upd_ne λe=>L.nr b e.symm];exact L.ro,λc=>?_,by rw [upd_ne λe=>L.nu b e.symm];exact L.ud,by rw [upd_ne λe=>L.nt b e.symm];exact L.tk,L.nl,L.nr,L.nu,L.nt,L.nut,L.nru,L.nrt⟩
 · rw [hmd] at e
   cases e
   exact up_ne hmd hl λys z=>(by cases z)
 · by_cases e:c=b
   · subst e
     rw [setR_same]
     exact ⟨ts,es,upd_same,Paired.mapP h1 λ_ _ q=>q.keep ht,Paired.mapP h2 λ_ _ q=>q.keep ht⟩
   · rw [setR_ne e]
     refine (L.rw c).keep (λo q=>?_) ht
     rw [upd_ne λz=>?_]
     · exact q
     · cases c<;>cases b
       · exact e rfl
       · exact L.nl z
       · exact L.nl z.symm
       · exact e rfl
end
end L2
namespace L2
open PySem PySem.Spec PyProof.Rows
theorem inV_int (i:Int):∀ ns:List Int,inV (.int i) (ns.map V.int)=ns.contains i
 | []=>rfl
 | n :: ns=>by
   have ih:=inV_int i ns
   unfold inV at ih ⊢
   rw [List.map_cons,List.any_cons,ih,List.contains_cons]
   congr 1
   show eqV (.int n) (.int i)=(i == n)
   simp only [eqV]
   rw [Bool.eq_iff_iff,beq_iff_eq,beq_iff_eq]
   exact eq_comm
theorem ints_flat:∀ ns:List Int,(ns.map V.int).all flatV=true
 | []=>rfl
 | n :: ns=>by rw [List.map_cons,List.all_cons,ints_flat ns];rfl
theorem KeyV.lay {H:Hp} {k:PyData} {y:V} (h:KeyV H k y):LayD k:=⟨MX.kd_lay _ h.1,by have:=h.2.1;omega⟩
def freeL (n:Nat) (un:List Int):List Int:=((List.range n).map λ(k:Nat)=>(k:Int)).filter λk=>!un.contains k
end L2

namespace L2
open PySem PySem.Spec PyProof.Rows
def KO (own:Addr->Prop) (H H':Hp):Prop:=∀ c o,¬ own c->H c=some o->H' c=some o
theorem KO.refl (own:Addr->Prop) (H:Hp):KO own H H:=λ_ _ _ e=>e
theorem KO.of_kp {own:Addr->Prop} {xs:List Addr} {H H':Hp} (k:Kp xs H H') (h:∀ c∈xs,own c):KO own H H':=λc o n e=>k c o (λm=>n (h c m)) e
theorem KO.of_same {own:Addr->Prop} {H H':Hp} (s:Same H H'):KO own H H':=λc o _ e=>s c o e
theorem KO.trans {own own':Addr->Prop} {H H1 H2:Hp} (a:KO own H H1) (b:KO own' H1 H2) (h:∀ c,own' c->own c\/H c=none):KO own H H2:=λc o n e=>b c o (λz=>by
 rcases h c z with y | y
 · exact n y
 · rw [y] at e;cases e) (a c o n e)
theorem KO.mono {own own':Addr->Prop} {H H':Hp} (a:KO own H H') (h:∀ c,own c->own' c):KO own' H H':=λc o n e=>a c o (λz=>n (h c z)) e
theorem lsK_gK {la:LA} {p:RP} {n:Int} {ns:List Int}:(HO.dK (lsK la p n))≠HO.dK (gK ns):=by
 intro h
 injection h with h
 unfold lsK at h
 cases ns with
 | nil=>cases h
 | cons x xs=>cases h
section
variable {w:World} {CH CT CR CS:Addr} {H H':Hp} {z:HA} {zt:TA'} {sa:SA} {la:LA} {p:RP} {n:Int} {m:Mem} {rs:Bool->List Wr} {un tk aw:List Int} {nn:Int} {st:Addr}
theorem Hn.apart (B:Hn CH CR H z st p nn aw) (L:LS w H la p n m rs un tk) {c:Addr} (hc:la.own c):¬ z.own c:=λhz=>by
 obtain ⟨o,e,s⟩:=B.there hz
 rcases hc with rfl | rfl | rfl | rfl | rfl | rfl | rfl
 · rcases hz with y | y | y | y
   · obtain ⟨dx,q⟩:=B.ob;rw [← y,L.sd] at q;cases q
   · obtain ⟨dx,q⟩:=B.ra;rw [← y,L.sd] at q;cases q
   · obtain ⟨dx,q⟩:=B.rb;rw [← y,L.sd] at q;cases q
   · have q:=B.go;rw [← y,L.sd] at q;exact lsK_gK (Option.some.inj q)
 · obtain ⟨M,hM,_⟩:=L.me
   obtain ⟨ee,q⟩:=hM.there
   rw [e] at q;cases q
   rcases s with ⟨_,_,_,s⟩ | ⟨_,s⟩<;>cases s
 · rw [L.ro] at e;cases e
   rcases s with ⟨_,_,_,s⟩ | ⟨_,s⟩<;>cases s
 · obtain ⟨ts,_,q,_⟩:=L.rw false
   rw [q] at e;cases e
   rcases s with ⟨_,_,_,s⟩ | ⟨_,s⟩<;>cases s
 · obtain ⟨ts,_,q,_⟩:=L.rw true
   rw [q] at e;cases e
   rcases s with ⟨_,_,_,s⟩ | ⟨_,s⟩<;>cases s
 · rw [L.ud] at e;cases e
   rcases s with ⟨_,_,_,s⟩ | ⟨_,s⟩<;>cases s
 · rw [L.tk] at e;cases e
   rcases s with ⟨_,_,_,s⟩ | ⟨_,s⟩<;>cases s
theorem Tn.apart (B:Tn CT CR H zt st p aw) (L:LS w H la p n m rs un tk) {c:Addr} (hc:la.own c):¬ zt.own c:=λhz=>by
 obtain ⟨o,e,s⟩:=B.there hz
 rcases hc with rfl | rfl | rfl | rfl | rfl | rfl | rfl
 · rcases hz with y | y | y | y
   · obtain ⟨dx,q⟩:=B.ob;rw [← y,L.sd] at q;cases q
   · obtain ⟨dx,q⟩:=B.ra;rw [← y,L.sd] at q;cases q
   · obtain ⟨dx,q⟩:=B.rb;rw [← y,L.sd] at q;cases q
   · have q:=B.go;rw [← y,L.sd] at q;exact lsK_gK (Option.some.inj q)
 · obtain ⟨M,hM,_⟩:=L.me
   obtain ⟨ee,q⟩:=hM.there
   rw [e] at q;cases q
   rcases s with ⟨_,_,_,s⟩ | ⟨_,s⟩<;>cases s
 · rw [L.ro] at e;cases e
   rcases s with ⟨_,_,_,s⟩ | ⟨_,s⟩<;>cases s
 · obtain ⟨ts,_,q,_⟩:=L.rw false
   rw [q] at e;cases e
   rcases s with ⟨_,_,_,s⟩ | ⟨_,s⟩<;>cases s
 · obtain ⟨ts,_,q,_⟩:=L.rw true
   rw [q] at e;cases e
   rcases s with ⟨_,_,_,s⟩ | ⟨_,s⟩<;>cases s
 · rw [L.ud] at e;cases e
   rcases s with ⟨_,_,_,s⟩ | ⟨_,s⟩<;>cases s
 · rw [L.tk] at e;cases e
   rcases s with ⟨_,_,_,s⟩ | ⟨_,s⟩<;>cases s
end
def scD:PyData->Bool
 | .none=>true
 | .bool _=>true
 | .int _=>true
 | .str _=>true
 | _=>false
def flD:PyData->Bool
 | .tuple ds=>ds.all scD
 | d=>scD d
theorem DV.sc {H H':Hp}:∀ {d:PyData} {v:V},scD d=true->DV H d v->DV H' d v
 | .none,_,_,h=>h
 | .bool _,_,_,h=>h
 | .int _,_,_,h=>h
 | .str _,_,_,h=>h
 | .list _,_,h,_=>by cases h
 | .tuple _,_,h,_=>by cases h
 | .dict _,_,h,_=>by cases h
theorem DVs.sc {H H':Hp}:∀ {ds:List PyData} {vs:List V},ds.all scD=true->DVs H ds vs->DVs H' ds vs
 | [],_,_,h=>h
 | d :: ds,_,h,⟨v,r,e,h1,h2⟩=>by
   rw [List.all_cons,Bool.and_eq_true] at h
   exact ⟨v,r,e,DV.sc h.1 h1,DVs.sc h.2 h2⟩
theorem DV.fl {H H':Hp} (ht:∀ b vs,H b=some (.tup vs)->H' b=some (.tup vs)):∀ {d:PyData} {v:V},flD d=true->DV H d v->DV H' d v
 | .none,_,_,h=>h
 | .bool _,_,_,h=>h
 | .int _,_,_,h=>h
 | .str _,_,_,h=>h
 | .list _,_,h,_=>by cases h
 | .tuple ds,_,h,⟨a,vs,e,ha,hv⟩=>⟨a,vs,e,ht _ _ ha,DVs.sc h hv⟩
 | .dict _,_,h,_=>by cases h
def Nms (k:Int) (ns:List Int):Prop:=ns.Nodup/\∀ x∈ns,0 <= x/\x < k
theorem Nms.nil (k:Int):Nms k []:=⟨List.nodup_nil,λ_ h=>by cases h⟩
theorem Nms.len {k:Int} {ns:List Int} (h:Nms k ns) (hk:k <= 9):ns.length <= 9:=by
 have:=nodup_le (l:=ns) (ks:=[0,1,2,3,4,5,6,7,8]) h.1 λx hx=>by
   have:=h.2 x hx
   have:x=0\/x=1\/x=2\/x=3\/x=4\/x=5\/x=6\/x=7\/x=8:=by omega
   simp only [List.mem_cons,List.not_mem_nil,or_false]
   exact this
 exact this
theorem Nms.snoc {k x:Int} {ns:List Int} (h:Nms k ns) (hx:ns.contains x=false) (hb:0 <= x/\x < k):Nms k (ns++[x]):=by
 refine ⟨?_,λy hy=>?_⟩
 · rw [List.nodup_append]
   refine ⟨h.1,List.nodup_cons.mpr ⟨by simp,List.nodup_nil⟩,λa ha b hb' e=>?_⟩
   rw [List.mem_singleton.mp hb'] at e
   rw [List.contains_eq_mem,decide_eq_false_iff_not] at hx
   exact hx (e ▸ ha)
 · rcases List.mem_append.mp hy with z | z
   · exact h.2 y z
   · rw [List.mem_singleton.mp z];exact hb
theorem Nms.filter {k x:Int} {ns:List Int} (h:Nms k ns):Nms k (ns.filter λy=>decide (y≠x)) :=
 ⟨List.Pairwise.filter _ h.1,λy hy=>h.2 y (List.mem_filter.mp hy).1⟩
theorem Nms.next {k x:Int} {ns:List Int} (h:Nms k ns) (hb:0 <= x/\x < k):Nms k (gNext ns x):=by
 unfold gNext
 cases e:ns.contains x with
 | true=>exact h
 | false=>exact h.snoc e hb
theorem Nms.erase {k x:Int} {ns:List Int} (h:Nms k ns):Nms k (ns.erase x) :=
 ⟨List.Nodup.erase x h.1,λy hy=>h.2 y (List.mem_of_mem_erase hy)⟩
theorem Nms.erase_eq {k x:Int} {ns:List Int} (h:Nms k ns):ns.erase x=ns.filter λy=>decide (y≠x):=by
 rw [h.1.erase_eq_filter]
 refine List.filter_congr λy _=>?_
 by_cases e:y=x
 · subst e;simp
 · simp [e]
end L2

namespace L2
open PySem PySem.Spec PyProof.Rows
inductive Hist (g:Bool) (a f:Cn) (s N:Int):List Wr->List (Int × Int)->Nat->Nat->Prop where
 | nil:Hist g a f s N [] [] 0 0
 | place {W A na nf} (nm wt:Int) (h:Hist g a f s N W A na nf) (e:na=A.length):Hist g a f s N (W++[.p g ((A.length:Int) % s) nm wt]) (A++[(nm,wt)]) na nf
 | laid {W A na nf} (h:Hist g a f s N W A na nf) (e:na+1=A.length):Hist g a f s N (W++[.c a (((na+1:Nat):Int) % N)]) A (na+1) nf
 | fetched {W A na nf} (h:Hist g a f s N W A na nf):Hist g a f s N (W++[.c f (((nf+1:Nat):Int) % N)]) A na (nf+1)
section
variable {g:Bool} {a f:Cn} {s N:Int} {W:List Wr} {A:List (Int × Int)} {na nf:Nat}
theorem Hist.le (h:Hist g a f s N W A na nf):na <= A.length/\A.length <= na+1:=by
 induction h with
 | nil=>exact ⟨Nat.le_refl _,by show 0 <= 1;decide⟩
 | place nm wt h e ih=>rw [List.length_append];show _ <= _+1/\_+1 <= _;omega
 | laid h e ih=>omega
 | fetched h ih=>exact ih
theorem Hist.cA (h:Hist g a f s N W A na nf) (haf:a≠f):rdC Mem.zero W a=(na:Int) % N:=by
 induction h with
 | nil=>show (0:Int)=0 % N;simp
 | place nm wt h e ih=>rw [rdC_snoc];exact ih
 | laid h e ih=>rw [rdC_snoc];show (if a=a then some _ else none).getD _=_;rw [if_pos rfl];rfl
 | fetched h ih=>rw [rdC_snoc];show (if f=a then some _ else none).getD _=_;rw [if_neg λy=>haf y.symm];exact ih
theorem Hist.cF (h:Hist g a f s N W A na nf) (haf:a≠f):rdC Mem.zero W f=(nf:Int) % N:=by
 induction h with
 | nil=>show (0:Int)=0 % N;simp
 | place nm wt h e ih=>rw [rdC_snoc];exact ih
 | laid h e ih=>rw [rdC_snoc];show (if a=f then some _ else none).getD _=_;rw [if_neg haf];exact ih
 | fetched h ih=>rw [rdC_snoc];show (if f=f then some _ else none).getD _=_;rw [if_pos rfl];rfl
theorem Hist.pl (h:Hist g a f s N W A na nf) (hs:0 < s):∀ k:Nat,k < A.length->(A.length:Int) <= k+s->rdP Mem.zero W g ((k:Int) % s)=A[k]?:=by
 induction h with
 | nil=>intro k hk;cases hk
 | place nm wt h e ih =>
   rename_i W A na nf
   intro k hk hl
   rw [rdP_snoc]
   rw [List.length_append] at hk hl
   have hl':((A.length:Int)+1) <= k+s:=hl
   have hk':k < A.length+1:=hk
   show (if g=g/\(A.length:Int) % s=(k:Int) % s then some (nm,wt) else none).or _=_
   by_cases y:k=A.length
   · rw [if_pos ⟨rfl,by rw [y]⟩,y]
     show some (nm,wt)=_
     simp
   · have hlt:k < A.length:=by omega
     rw [if_neg ?_]
     · show Option.or none _=_
       rw [Option.none_or,ih k hlt (by omega),List.getElem?_append_left hlt]
     · rintro ⟨_,q⟩
       have d:((A.length:Int) - k) % s=0:=Int.emod_eq_emod_iff_emod_sub_eq_zero.mp q
       have d1:((A.length:Int) - k) < s:=by omega
       rw [Int.emod_eq_of_lt (by omega) d1] at d
       omega
 | laid h e ih=>intro k hk hl;rw [rdP_snoc];exact ih k hk hl
 | fetched h ih=>intro k hk hl;rw [rdP_snoc];exact ih k hk hl
theorem Hist.pre (h:Hist g a f s N W A na nf):∀ d:Nat,∃ A' na' nf',Hist g a f s N (W.take d) A' na' nf'/\A' <+: A/\na' <= na/\nf' <= nf:=by
 induction h with
 | nil=>intro d;exact ⟨[],0,0,by rw [List.take_nil];exact .nil,List.prefix_refl _,Nat.le_refl _,Nat.le_refl _⟩
 | place nm wt h e ih =>
   rename_i W A na nf
   intro d
   by_cases hd:d <= W.length
   · obtain ⟨A',na',nf',q,q1,q2,q3⟩:=ih d
     exact ⟨A',na',nf',by rw [List.take_append_of_le_length hd];exact q,q1.trans (List.prefix_append _ _),q2,q3⟩
   · exact ⟨_,_,_,by rw [List.take_of_length_le (by rw [List.length_append];show _+1 <= d;omega)];exact .place nm wt h e,List.prefix_refl _,Nat.le_refl _,Nat.le_refl _⟩
 | laid h e ih =>
   rename_i W A na nf
   intro d
   by_cases hd:d <= W.length
   · obtain ⟨A',na',nf',q,q1,q2,q3⟩:=ih d
     exact ⟨A',na',nf',by rw [List.take_append_of_le_length hd];exact q,q1,by omega,q3⟩
   · exact ⟨_,_,_,by rw [List.take_of_length_le (by rw [List.length_append];show _+1 <= d;omega)];exact .laid h e,List.prefix_refl _,Nat.le_refl _,Nat.le_refl _⟩
 | fetched h ih =>
   rename_i W A na nf
   intro d
   by_cases hd:d <= W.length
   · obtain ⟨A',na',nf',q,q1,q2,q3⟩:=ih d
     exact ⟨A',na',nf',by rw [List.take_append_of_le_length hd];exact q,q1,q2,by omega⟩
   · exact ⟨_,_,_,by rw [List.take_of_length_le (by rw [List.length_append];show _+1 <= d;omega)];exact .fetched h,List.prefix_refl _,Nat.le_refl _,Nat.le_refl _⟩
end
theorem rdC_app (m:Mem) (X Y:List Wr) (k:Cn):rdC m (X++Y) k=(Y.reverse.findSome? (Wr.cnt k)).getD (rdC m X k):=by
 unfold rdC
 rw [List.reverse_append,List.findSome?_append]
 cases Y.reverse.findSome? (Wr.cnt k)<;>rfl
theorem rdC_own {m:Mem} {W:List Wr} {d:Nat} {k:Cn} (h:m.c k=rdC Mem.zero (W.take d) k):rdC m (W.drop d) k=rdC Mem.zero W k:=by
 have e:rdC Mem.zero W k=rdC Mem.zero (W.take d++W.drop d) k:=by rw [List.take_append_drop]
 rw [e,rdC_app,← h];rfl
theorem rdC_none {m:Mem} {k:Cn}:∀ {row:List Wr},(∀ x∈row,x.cnt k=none)->rdC m row k=m.c k:=λ{row} h=>by
 unfold rdC
 rw [List.findSome?_eq_none_iff.mpr λx hx=>h x (List.mem_reverse.mp hx)];rfl
theorem rdP_none {m:Mem} {g:Bool} {i:Int}:∀ {row:List Wr},(∀ x∈row,x.plc g i=none)->rdP m row g i=m.p g i:=λ{row} h=>by
 unfold rdP
 rw [List.findSome?_eq_none_iff.mpr λx hx=>h x (List.mem_reverse.mp hx)];simp
def isC (k:Cn) (x:Wr):Bool:=(x.cnt k).isSome
section
variable {g:Bool} {a f:Cn} {s N:Int} {W:List Wr} {A:List (Int × Int)} {na nf:Nat}
theorem Hist.nA (h:Hist g a f s N W A na nf) (haf:a≠f):(W.filter (isC a)).length=na:=by
 induction h with
 | nil=>rfl
 | place nm wt h e ih=>rw [List.filter_append,List.length_append,ih];rfl
 | laid h e ih =>
   rw [List.filter_append,List.length_append,ih]
   show _+(List.filter (isC a) [.c a _]).length=_
   rw [List.filter_cons,if_pos (by show (if a=a then some _ else none).isSome=true;rw [if_pos rfl];rfl)];rfl
 | fetched h ih =>
   rw [List.filter_append,List.length_append,ih]
   show _+(List.filter (isC a) [.c f _]).length=_
   rw [List.filter_cons,if_neg (by show ¬ (if f=a then some _ else none).isSome=true;rw [if_neg λy=>haf y.symm];decide)];rfl
theorem Hist.nF (h:Hist g a f s N W A na nf) (haf:a≠f):(W.filter (isC f)).length=nf:=by
 induction h with
 | nil=>rfl
 | place nm wt h e ih=>rw [List.filter_append,List.length_append,ih];rfl
 | laid h e ih =>
   rw [List.filter_append,List.length_append,ih]
   show _+(List.filter (isC f) [.c a _]).length=_
   rw [List.filter_cons,if_neg (by show ¬ (if a=f then some _ else none).isSome=true;rw [if_neg haf];decide)];rfl
 | fetched h ih =>
   rw [List.filter_append,List.length_append,ih]
   show _+(List.filter (isC f) [.c f _]).length=_
   rw [List.filter_cons,if_pos (by show (if f=f then some _ else none).isSome=true;rw [if_pos rfl];rfl)];rfl
theorem Hist.only (h:Hist g a f s N W A na nf):∀ x∈W,(∃ i nm wt,x=.p g i nm wt)\/(∃ i,x=.c a i)\/∃ i,x=.c f i:=by
 induction h with
 | nil=>intro x hx;cases hx
 | place nm wt h e ih =>
   intro x hx
   rcases List.mem_append.mp hx with y | y
   · exact ih x y
   · exact .inl ⟨_,_,_,List.mem_singleton.mp y⟩
 | laid h e ih =>
   intro x hx
   rcases List.mem_append.mp hx with y | y
   · exact ih x y
   · exact .inr (.inl ⟨_,List.mem_singleton.mp y⟩)
 | fetched h ih =>
   intro x hx
   rcases List.mem_append.mp hx with y | y
   · exact ih x y
   · exact .inr (.inr ⟨_,List.mem_singleton.mp y⟩)
end
end L2

namespace L2
open PySem PySem.Spec PyProof.Rows
structure Two (s R:Int) (m:Mem) (rs:Bool->List Wr) (A B:List (Int × Int)) (T Hd:Nat) (Wf Wt:List Wr) (df dt:Nat) (A' B':List (Int × Int)) (a' h' b' t':Nat):Prop where
 hf:Hist false .asked .handed s (s * R) Wf A A.length Hd
 ht:Hist true .answered .taken s (s * R) Wt B B.length T
 pf:Hist false .asked .handed s (s * R) (Wf.take df) A' a' h'
 pt:Hist true .answered .taken s (s * R) (Wt.take dt) B' b' t'
 af:A' <+: A
 bt:B' <+: B
 rf:rs false=Wf.drop df
 rt:rs true=Wt.drop dt
 ma:m.c .asked=rdC Mem.zero (Wf.take df) .asked
 mh:m.c .handed=rdC Mem.zero (Wf.take df) .handed
 mp:∀ i,m.p false i=rdP Mem.zero (Wf.take df) false i
 mb:m.c .answered=rdC Mem.zero (Wt.take dt) .answered
 mt:m.c .taken=rdC Mem.zero (Wt.take dt) .taken
 mq:∀ i,m.p true i=rdP Mem.zero (Wt.take dt) true i
 la:a' <= A.length
 lh:h' <= Hd
 lb:b' <= B.length
 lt:t' <= T
 ta:T <= a'
 hb:Hd <= b'
 sa:(A.length:Int) <= t'+s
 sb:(B.length:Int) <= h'+s
 xf:df <= Wf.length
 xt:dt <= Wt.length
theorem ahead_eq {s R:Int} {x y:Nat} (hs:0 < s) (hR:2 <= R) (h1:y <= x) (h2:(x:Int) <= y+s):((x:Int) % (s * R) - (y:Int) % (s * R)) % (s * R)=(x:Int) - y:=by
 have hN:s < s * R:=by
   have:=Int.mul_le_mul_of_nonneg_left hR (Int.le_of_lt hs)
   omega
 rw [← Int.sub_emod]
 exact Int.emod_eq_of_lt (by omega) (by omega)
section
variable {s R:Int} {m:Mem} {rs:Bool->List Wr} {A B:List (Int × Int)} {T Hd:Nat} {Wf Wt:List Wr} {df dt:Nat} {A' B':List (Int × Int)} {a' h' b' t':Nat}
theorem Two.noT (t:Two s R m rs A B T Hd Wf Wt df dt A' B' a' h' b' t'):∀ x∈rs true,x.cnt .asked=none/\x.cnt .handed=none/\∀ i,x.plc false i=none:=λx hx=>by
 rw [t.rt] at hx
 rcases t.ht.only x (List.mem_of_mem_drop hx) with ⟨i,nm,wt,rfl⟩ | ⟨i,rfl⟩ | ⟨i,rfl⟩
 · exact ⟨rfl,rfl,λj=>by unfold Wr.plc;dsimp only;rw [if_neg (by rintro ⟨q,_⟩;cases q)]⟩
 · exact ⟨rfl,rfl,λj=>rfl⟩
 · exact ⟨rfl,rfl,λj=>rfl⟩
theorem Two.noF (t:Two s R m rs A B T Hd Wf Wt df dt A' B' a' h' b' t'):∀ x∈rs false,x.cnt .answered=none/\x.cnt .taken=none/\∀ i,x.plc true i=none:=λx hx=>by
 rw [t.rf] at hx
 rcases t.hf.only x (List.mem_of_mem_drop hx) with ⟨i,nm,wt,rfl⟩ | ⟨i,rfl⟩ | ⟨i,rfl⟩
 · exact ⟨rfl,rfl,λj=>by unfold Wr.plc;dsimp only;rw [if_neg (by rintro ⟨q,_⟩;cases q)]⟩
 · exact ⟨rfl,rfl,λj=>rfl⟩
 · exact ⟨rfl,rfl,λj=>rfl⟩
theorem Two.reads (t:Two s R m rs A B T Hd Wf Wt df dt A' B' a' h' b' t') :
   (rdC m (rs false) .asked=(A.length:Int) % (s * R)/\rdC m (rs false) .handed=(Hd:Int) % (s * R)/\rdC m (rs false) .taken=(t':Int) % (s * R)/\rdC m (rs false) .answered=(b':Int) % (s * R)) /\
   (rdC m (rs true) .asked=(a':Int) % (s * R)/\rdC m (rs true) .handed=(h':Int) % (s * R)/\rdC m (rs true) .taken=(T:Int) % (s * R)/\rdC m (rs true) .answered=(B.length:Int) % (s * R)):=by
 refine ⟨⟨?_,?_,?_,?_⟩,?_,?_,?_,?_⟩
 · rw [t.rf,rdC_own t.ma];exact t.hf.cA (by decide)
 · rw [t.rf,rdC_own t.mh];exact t.hf.cF (by decide)
 · rw [rdC_none λx hx=>(t.noF x hx).2.1,t.mt];exact t.pt.cF (by decide)
 · rw [rdC_none λx hx=>(t.noF x hx).1,t.mb];exact t.pt.cA (by decide)
 · rw [rdC_none λx hx=>(t.noT x hx).1,t.ma];exact t.pf.cA (by decide)
 · rw [rdC_none λx hx=>(t.noT x hx).2.1,t.mh];exact t.pf.cF (by decide)
 · rw [t.rt,rdC_own t.mt];exact t.ht.cF (by decide)
 · rw [t.rt,rdC_own t.mb];exact t.ht.cA (by decide)
theorem Two.ask (t:Two s R m rs A B T Hd Wf Wt df dt A' B' a' h' b' t') (hs:0 < s) (h:T < a'):rdP m (rs true) false ((T:Int) % (s * R) % s)=A[T]?:=by
 rw [Int.emod_emod_of_dvd _ (Int.dvd_mul_right s R),rdP_none λx hx=>(t.noT x hx).2.2 _,t.mp]
 have l1:=t.pf.le.1
 have l2:=t.af.length_le
 have l3:=t.sa
 have l4:=t.lt
 rw [t.pf.pl hs T (by omega) (by omega)]
 obtain ⟨X,e⟩:=t.af
 rw [← e,List.getElem?_append_left (by omega)]
theorem Two.answer (t:Two s R m rs A B T Hd Wf Wt df dt A' B' a' h' b' t') (hs:0 < s) (h:Hd < b'):rdP m (rs false) true ((Hd:Int) % (s * R) % s)=B[Hd]?:=by
 rw [Int.emod_emod_of_dvd _ (Int.dvd_mul_right s R),rdP_none λx hx=>(t.noF x hx).2.2 _,t.mq]
 have l1:=t.pt.le.1
 have l2:=t.bt.length_le
 have l3:=t.sb
 have l4:=t.lh
 rw [t.pt.pl hs Hd (by omega) (by omega)]
 obtain ⟨X,e⟩:=t.bt
 rw [← e,List.getElem?_append_left (by omega)]
theorem next_eq (x:Nat) (N:Int):((x:Int) % N+1) % N=((x+1:Nat):Int) % N:=by
 rw [Int.emod_add_emod];rfl
theorem Two.asked (t:Two s R m rs A B T Hd Wf Wt df dt A' B' a' h' b' t') (hl:(A.length:Int) < t'+s) (nm wt:Int):∃ W,Two s R m (setR rs false (rs false++layT ⟨s,R,false⟩ m (rs false) false .asked nm wt)) (A++[(nm,wt)]) B T Hd W Wt df dt A' B' a' h' b' t':=by
 have e1:=t.reads.1.1
 have el:layT ⟨s,R,false⟩ m (rs false) false .asked nm wt=[.p false ((A.length:Int) % s) nm wt,.c .asked (((A.length+1:Nat):Int) % (s * R))]:=by
   unfold layT nextT
   rw [e1]
   show [Wr.p false ((A.length:Int) % (s * R) % s) nm wt,.c .asked (((A.length:Int) % (s * R)+1) % (s * R))]=_
   rw [Int.emod_emod_of_dvd _ (Int.dvd_mul_right s R),next_eq]
 rw [el]
 have h1:=(t.hf.place nm wt rfl).laid (by rw [List.length_append];rfl)
 rw [List.append_assoc] at h1
 have hlen:(A++[(nm,wt)]).length=A.length+1:=by rw [List.length_append];rfl
 refine ⟨_,⟨by rw [hlen];exact h1,t.ht,by rw [List.take_append_of_le_length t.xf];exact t.pf,t.pt,t.af.trans (List.prefix_append _ _),t.bt,?_,by rw [setR_ne (by decide)];exact t.rt,by rw [List.take_append_of_le_length t.xf];exact t.ma,by rw [List.take_append_of_le_length t.xf];exact t.mh,λi=>by rw [List.take_append_of_le_length t.xf];exact t.mp i,t.mb,t.mt,t.mq,by rw [hlen];have:=t.la;omega,t.lh,t.lb,t.lt,t.ta,t.hb,by rw [hlen];omega,t.sb,by rw [List.length_append];have:=t.xf;omega,t.xt⟩⟩
 rw [setR_same,t.rf,List.drop_append_of_le_length t.xf];rfl
theorem Two.drainF (t:Two s R m rs A B T Hd Wf Wt df dt A' B' a' h' b' t') {x:Wr} {rest:List Wr} (e:rs false=x :: rest):∃ A2 a2 h2,a' <= a2/\h' <= h2/\Two s R (m.put x) (setR rs false rest) A B T Hd Wf Wt (df+1) dt A2 B' a2 h2 b' t':=by
 have hx:=t.rf.symm.trans e
 have hlt:df < Wf.length:=by
   have:=congrArg List.length hx
   rw [List.length_drop,List.length_cons] at this
   omega
 have ht:Wf.take (df+1)=Wf.take df++[x]:=by
   have g:Wf[df]?=some x:=by
     have:=congrArg List.head? hx
     rw [List.head?_drop] at this
     exact this
   rw [List.take_succ,g];rfl
 have hr:Wf.drop (df+1)=rest:=by
   rw [← List.drop_drop,hx];rfl
 obtain ⟨A2,a2,h2,q,q1,q2,q3⟩:=t.hf.pre (df+1)
 have n1:=t.pf.nA (by decide)
 have n2:=t.pf.nF (by decide)
 have n3:=q.nA (by decide)
 have n4:=q.nF (by decide)
 rw [ht,List.filter_append,List.length_append] at n3 n4
 have ga:a' <= a2:=by omega
 have gh:h' <= h2:=by omega
 have ox:(∃ i nm wt,x=.p false i nm wt)\/(∃ i,x=.c .asked i)\/∃ i,x=.c .handed i:=t.hf.only x (List.mem_of_mem_drop (by rw [hx];exact List.mem_cons_self))
 have oth:x.cnt .answered=none/\x.cnt .taken=none/\∀ i,x.plc true i=none:=t.noF x (by rw [e];exact List.mem_cons_self)
 refine ⟨A2,a2,h2,ga,gh,⟨t.hf,t.ht,q,t.pt,q1,t.bt,by rw [setR_same];exact hr.symm,by rw [setR_ne (by decide)];exact t.rt,?_,?_,λi=>?_,?_,?_,λi=>?_,by have:=q2;omega,q3,t.lb,t.lt,by have:=t.ta;omega,t.hb,t.sa,by have:=t.sb;omega,hlt,t.xt⟩⟩
 · rw [ht,rdC_snoc,← t.ma];rfl
 · rw [ht,rdC_snoc,← t.mh];rfl
 · rw [ht,rdP_snoc,← t.mp];rfl
 · rw [← t.mb];show (x.cnt .answered).getD _=_;rw [oth.1];rfl
 · rw [← t.mt];show (x.cnt .taken).getD _=_;rw [oth.2.1];rfl
 · rw [← t.mq i];show (x.plc true i).or _=_;rw [oth.2.2 i];rfl
theorem Two.collected (t:Two s R m rs A B T Hd Wf Wt df dt A' B' a' h' b' t') (hl:Hd < b'):∃ W,Two s R m (setR rs false (rs false++[nextT ⟨s,R,false⟩ m (rs false) .handed])) A B T (Hd+1) W Wt df dt A' B' a' h' b' t':=by
 have e1:=t.reads.1.2.1
 have el:nextT ⟨s,R,false⟩ m (rs false) .handed=.c .handed (((Hd+1:Nat):Int) % (s * R)):=by
   unfold nextT
   rw [e1]
   show Wr.c .handed (((Hd:Int) % (s * R)+1) % (s * R))=_
   rw [next_eq]
 rw [el]
 refine ⟨_,⟨t.hf.fetched,t.ht,by rw [List.take_append_of_le_length t.xf];exact t.pf,t.pt,t.af,t.bt,?_,by rw [setR_ne (by decide)];exact t.rt,by rw [List.take_append_of_le_length t.xf];exact t.ma,by rw [List.take_append_of_le_length t.xf];exact t.mh,λi=>by rw [List.take_append_of_le_length t.xf];exact t.mp i,t.mb,t.mt,t.mq,t.la,by have:=t.lh;omega,t.lb,t.lt,t.ta,hl,t.sa,t.sb,by rw [List.length_append];have:=t.xf;omega,t.xt⟩⟩
 rw [setR_same,t.rf,List.drop_append_of_le_length t.xf]
theorem Two.took (t:Two s R m rs A B T Hd Wf Wt df dt A' B' a' h' b' t') (hl:T < a'):∃ W,Two s R m (setR rs true (rs true++[nextT ⟨s,R,false⟩ m (rs true) .taken])) A B (T+1) Hd Wf W df dt A' B' a' h' b' t':=by
 have e1:=t.reads.2.2.2.1
 have el:nextT ⟨s,R,false⟩ m (rs true) .taken=.c .taken (((T+1:Nat):Int) % (s * R)):=by
   unfold nextT
   rw [e1]
   show Wr.c .taken (((T:Int) % (s * R)+1) % (s * R))=_
   rw [next_eq]
 rw [el]
 refine ⟨_,⟨t.hf,t.ht.fetched,t.pf,by rw [List.take_append_of_le_length t.xt];exact t.pt,t.af,t.bt,by rw [setR_ne (by decide)];exact t.rf,?_,t.ma,t.mh,t.mp,by rw [List.take_append_of_le_length t.xt];exact t.mb,by rw [List.take_append_of_le_length t.xt];exact t.mt,λi=>by rw [List.take_append_of_le_length t.xt];exact t.mq i,t.la,t.lh,t.lb,by have:=t.lt;omega,hl,t.hb,t.sa,t.sb,t.xf,by rw [List.length_append];have:=t.xt;omega⟩⟩
 rw [setR_same,t.rt,List.drop_append_of_le_length t.xt]
theorem Two.answered (t:Two s R m rs A B T Hd Wf Wt df dt A' B' a' h' b' t') (hl:(B.length:Int) < h'+s) (nm wt:Int):∃ W,Two s R m (setR rs true (rs true++layT ⟨s,R,false⟩ m (rs true) true .answered nm wt)) A (B++[(nm,wt)]) T Hd Wf W df dt A' B' a' h' b' t':=by
 have e1:=t.reads.2.2.2.2
 have el:layT ⟨s,R,false⟩ m (rs true) true .answered nm wt=[.p true ((B.length:Int) % s) nm wt,.c .answered (((B.length+1:Nat):Int) % (s * R))]:=by
   unfold layT nextT
   rw [e1]
   show [Wr.p true ((B.length:Int) % (s * R) % s) nm wt,.c .answered (((B.length:Int) % (s * R)+1) % (s * R))]=_
   rw [Int.emod_emod_of_dvd _ (Int.dvd_mul_right s R),next_eq]
 rw [el]
 have h1:=(t.ht.place nm wt rfl).laid (by rw [List.length_append];rfl)
 rw [List.append_assoc] at h1
 have hlen:(B++[(nm,wt)]).length=B.length+1:=by rw [List.length_append];rfl
 refine ⟨_,⟨t.hf,by rw [hlen];exact h1,t.pf,by rw [List.take_append_of_le_length t.xt];exact t.pt,t.af,t.bt.trans (List.prefix_append _ _),by rw [setR_ne (by decide)];exact t.rf,?_,t.ma,t.mh,t.mp,by rw [List.take_append_of_le_length t.xt];exact t.mb,by rw [List.take_append_of_le_length t.xt];exact t.mt,λi=>by rw [List.take_append_of_le_length t.xt];exact t.mq i,t.la,t.lh,by rw [hlen];have:=t.lb;omega,t.lt,t.ta,t.hb,t.sa,by rw [hlen];omega,t.xf,by rw [List.length_append];have:=t.xt;omega⟩⟩
 rw [setR_same,t.rt,List.drop_append_of_le_length t.xt];rfl
theorem Two.drainT (t:Two s R m rs A B T Hd Wf Wt df dt A' B' a' h' b' t') {x:Wr} {rest:List Wr} (e:rs true=x :: rest):∃ B2 b2 t2,b' <= b2/\t' <= t2/\Two s R (m.put x) (setR rs true rest) A B T Hd Wf Wt df (dt+1) A' B2 a' h' b2 t2:=by
 have hx:=t.rt.symm.trans e
 have hlt:dt < Wt.length:=by
   have:=congrArg List.length hx
   rw [List.length_drop,List.length_cons] at this
   omega
 have ht:Wt.take (dt+1)=Wt.take dt++[x]:=by
   have g:Wt[dt]?=some x:=by
     have:=congrArg List.head? hx
     rw [List.head?_drop] at this
     exact this
   rw [List.take_succ,g];rfl
 have hr:Wt.drop (dt+1)=rest:=by
   rw [← List.drop_drop,hx];rfl
 obtain ⟨B2,b2,t2,q,q1,q2,q3⟩:=t.ht.pre (dt+1)
 have n1:=t.pt.nA (by decide)
 have n2:=t.pt.nF (by decide)
 have n3:=q.nA (by decide)
 have n4:=q.nF (by decide)
 rw [ht,List.filter_append,List.length_append] at n3 n4
 have gb:b' <= b2:=by omega
 have gt:t' <= t2:=by omega
 have oth:x.cnt .asked=none/\x.cnt .handed=none/\∀ i,x.plc false i=none:=t.noT x (by rw [e];exact List.mem_cons_self)
 refine ⟨B2,b2,t2,gb,gt,⟨t.hf,t.ht,t.pf,q,t.af,q1,by rw [setR_ne (by decide)];exact t.rf,by rw [setR_same];exact hr.symm,?_,?_,λi=>?_,?_,?_,λi=>?_,t.la,t.lh,by have:=q2;omega,q3,t.ta,by have:=t.hb;omega,by have:=t.sa;omega,t.sb,t.xf,hlt⟩⟩
 · rw [← t.ma];show (x.cnt .asked).getD _=_;rw [oth.1];rfl
 · rw [← t.mh];show (x.cnt .handed).getD _=_;rw [oth.2.1];rfl
 · rw [← t.mp i];show (x.plc false i).or _=_;rw [oth.2.2 i];rfl
 · rw [ht,rdC_snoc,← t.mb];rfl
 · rw [ht,rdC_snoc,← t.mt];rfl
 · rw [ht,rdP_snoc,← t.mq];rfl
theorem Two.waits (t:Two s R m rs A B T Hd Wf Wt df dt A' B' a' h' b' t'):(((rs false).filter (isC .asked)).length=A.length - a'/\((rs false).filter (isC .handed)).length=Hd - h')/\((rs true).filter (isC .answered)).length=B.length - b'/\((rs true).filter (isC .taken)).length=T - t':=by
 have spl:∀ (W:List Wr) (d:Nat) (k:Cn),(W.filter (isC k)).length=((W.take d).filter (isC k)).length+((W.drop d).filter (isC k)).length:=λW d k=>by
   rw [← List.length_append,← List.filter_append,List.take_append_drop]
 have x1:=spl Wf df .asked
 have x2:=spl Wf df .handed
 have x3:=spl Wt dt .answered
 have x4:=spl Wt dt .taken
 rw [t.hf.nA (by decide),t.pf.nA (by decide),← t.rf] at x1
 rw [t.hf.nF (by decide),t.pf.nF (by decide),← t.rf] at x2
 rw [t.ht.nA (by decide),t.pt.nA (by decide),← t.rt] at x3
 rw [t.ht.nF (by decide),t.pt.nF (by decide),← t.rt] at x4
 omega
theorem Two.zero {s R:Int} (hs:0 < s):Two s R Mem.zero (λ_=>[]) [] [] 0 0 [] [] 0 0 [] [] 0 0 0 0 :=
 ⟨.nil,.nil,.nil,.nil,List.prefix_refl _,List.prefix_refl _,rfl,rfl,rfl,rfl,λ_=>rfl,rfl,rfl,λ_=>rfl,Nat.le_refl _,Nat.le_refl _,Nat.le_refl _,Nat.le_refl _,Nat.le_refl _,Nat.le_refl _,by show (0:Int) <= 0+s;omega,by show (0:Int) <= 0+s;omega,Nat.le_refl _,Nat.le_refl _⟩
end
end L2

namespace L2
open PySem PySem.Spec PyProof.Rows
def Mem.putAll (m:Mem) (row:List Wr):Mem:=row.foldl Mem.put m
structure M8 (s R:Int) (n:Nat) (m:Mem) (rs:Bool->List Wr) (un tk:List Int) (A B:List (Int × Int)) (T Hd:Nat):Prop where
 two:∃ Wf Wt df dt A' B' a' h' b' t',Two s R m rs A B T Hd Wf Wt df dt A' B' a' h' b' t'
 pm:un.Perm ((A.drop T).map (·.1)++(tk++(B.drop Hd).map (·.1)))
 bt:B.length+tk.length=T
 und:Nms n un
 tkd:Nms 9 tk
 n9:n <= 9
 s0:0 < s
 s8:s <= 8
 R2:2 <= R
def nC (k:Cn) (row:List Wr):Nat:=(row.filter (isC k)).length
section
variable {s R:Int} {n:Nat} {m:Mem} {rs:Bool->List Wr} {un tk:List Int} {A B:List (Int × Int)} {T Hd:Nat}
theorem M8.ok (M:M8 s R n m rs un tk A B T Hd):RP.Ok ⟨s,R,false⟩:=⟨M.s0,M.s8,by show 0 < s * R;exact Int.mul_pos M.s0 (by have:=M.R2;omega)⟩
theorem M8.TA (M:M8 s R n m rs un tk A B T Hd):T <= A.length/\Hd <= B.length:=by
 obtain ⟨Wf,Wt,df,dt,A',B',a',h',b',t',t⟩:=M.two
 have:=t.ta;have:=t.la;have:=t.hb;have:=t.lb
 omega
theorem M8.full (M:M8 s R n m rs un tk A B T Hd):aheadT ⟨s,R,false⟩ m (rs false) .asked .taken=s ↔ (A.length:Int) - ((T:Int) - (nC .taken (rs true):Nat))=s:=by
 obtain ⟨Wf,Wt,df,dt,A',B',a',h',b',t',t⟩:=M.two
 unfold aheadT
 rw [t.reads.1.1,t.reads.1.2.2.1]
 have h1:=t.lt;have h2:=t.ta;have h3:=t.la;have h4:=t.sa
 show ((A.length:Int) % (s * R) - (t':Int) % (s * R)) % (s * R)=s ↔ _
 rw [ahead_eq M.s0 M.R2 (by omega) h4]
 have:=t.waits.2.2
 unfold nC
 rw [this]
 omega
theorem M8.full2 (M:M8 s R n m rs un tk A B T Hd):aheadT ⟨s,R,false⟩ m (rs true) .answered .handed=s ↔ (B.length:Int) - ((Hd:Int) - (nC .handed (rs false):Nat))=s:=by
 obtain ⟨Wf,Wt,df,dt,A',B',a',h',b',t',t⟩:=M.two
 unfold aheadT
 rw [t.reads.2.2.2.2,t.reads.2.2.1]
 have h1:=t.lh;have h2:=t.hb;have h3:=t.lb;have h4:=t.sb
 show ((B.length:Int) % (s * R) - (h':Int) % (s * R)) % (s * R)=s ↔ _
 rw [ahead_eq M.s0 M.R2 (by omega) h4]
 have:=t.waits.1.2
 unfold nC
 rw [this]
 omega
theorem M8.none1 (M:M8 s R n m rs un tk A B T Hd):aheadT ⟨s,R,false⟩ m (rs true) .asked .taken=0 ↔ (A.length:Int) - (nC .asked (rs false):Nat)=T:=by
 obtain ⟨Wf,Wt,df,dt,A',B',a',h',b',t',t⟩:=M.two
 unfold aheadT
 rw [t.reads.2.1,t.reads.2.2.2.1]
 have h1:=t.lt;have h2:=t.ta;have h3:=t.la;have h4:=t.sa
 show ((a':Int) % (s * R) - (T:Int) % (s * R)) % (s * R)=0 ↔ _
 rw [ahead_eq M.s0 M.R2 h2 (by omega)]
 have:=t.waits.1.1
 unfold nC
 rw [this]
 omega
theorem M8.none2 (M:M8 s R n m rs un tk A B T Hd):aheadT ⟨s,R,false⟩ m (rs false) .answered .handed=0 ↔ (B.length:Int) - (nC .answered (rs true):Nat)=Hd:=by
 obtain ⟨Wf,Wt,df,dt,A',B',a',h',b',t',t⟩:=M.two
 unfold aheadT
 rw [t.reads.1.2.2.2,t.reads.1.2.1]
 have h1:=t.lh;have h2:=t.hb;have h3:=t.lb;have h4:=t.sb
 show ((b':Int) % (s * R) - (Hd:Int) % (s * R)) % (s * R)=0 ↔ _
 rw [ahead_eq M.s0 M.R2 h2 (by omega)]
 have:=t.waits.2.1
 unfold nC
 rw [this]
 omega
theorem M8.ask (M:M8 s R n m rs un tk A B T Hd) (h:aheadT ⟨s,R,false⟩ m (rs false) .asked .taken≠s) {nm:Int} (hl:least n un=some nm) (wt:Int) :
   M8 s R n m (setR rs false (rs false++layT ⟨s,R,false⟩ m (rs false) false .asked nm wt)) (un++[nm]) tk (A++[(nm,wt)]) B T Hd:=by
 obtain ⟨Wf,Wt,df,dt,A',B',a',h',b',t',t⟩:=M.two
 have hlt:(A.length:Int) < t'+s:=by
   rw [Ne,M.full] at h
   have h1:=t.waits.2.2
   unfold nC at h
   rw [h1] at h
   have h1:=t.lt;have h2:=t.ta;have h3:=t.la;have h4:=t.sa
   omega
 obtain ⟨W,t2⟩:=t.asked hlt nm wt
 have hT:=M.TA.1
 refine ⟨⟨_,_,_,_,_,_,_,_,_,_,t2⟩,?_,M.bt,M.und.snoc (least_free hl) (least_lt hl),M.tkd,M.n9,M.s0,M.s8,M.R2⟩
 rw [List.drop_append_of_le_length hT,List.map_append]
 refine (List.Perm.append_right [nm] M.pm).trans ?_
 rw [List.append_assoc (List.map _ (List.drop T A)),List.append_assoc (List.map _ (List.drop T A))]
 refine List.Perm.append_left _ ?_
 show (tk++(B.drop Hd).map (·.1)++[nm]).Perm ([nm]++_)
 exact List.perm_append_comm
theorem M8.takeR (M:M8 s R n m rs un tk A B T Hd) (h:aheadT ⟨s,R,false⟩ m (rs true) .asked .taken≠0):∃ nw,A[T]?=some nw/\rdP m (rs true) false (rdC m (rs true) .taken % s)=some nw/\T < A.length/\tk.contains nw.1=false/\(0 <= nw.1/\nw.1 < 9) /\
   M8 s R n m (setR rs true (rs true++[nextT ⟨s,R,false⟩ m (rs true) .taken])) un (tk++[nw.1]) A B (T+1) Hd:=by
 obtain ⟨Wf,Wt,df,dt,A',B',a',h',b',t',t⟩:=M.two
 have hlt:T < a':=by
   rw [Ne,M.none1] at h
   have h1:=t.waits.1.1
   unfold nC at h
   rw [h1] at h
   have h2:=t.ta;have h3:=t.la
   omega
 have hTA:T < A.length:=by have:=t.la;omega
 have hd:A.drop T=A[T] :: A.drop (T+1):=List.drop_eq_getElem_cons hTA
 have pm:=M.pm
 rw [hd,List.map_cons,List.cons_append] at pm
 have nd:=(pm.nodup_iff).mp M.und.1
 have nin:=(List.nodup_cons.mp nd).1
 have hin:A[T].1∈un:=pm.mem_iff.mpr List.mem_cons_self
 have hb:=M.und.2 _ hin
 have n9:=M.n9
 have hb9:0 <= A[T].1/\A[T].1 < 9:=⟨hb.1,by have:=hb.2;omega⟩
 have hc:tk.contains A[T].1=false:=by
   rw [List.contains_eq_mem,decide_eq_false_iff_not]
   exact λy=>nin (List.mem_append.mpr (.inr (List.mem_append.mpr (.inl y))))
 obtain ⟨W,t2⟩:=t.took hlt
 refine ⟨A[T],List.getElem?_eq_getElem hTA,?_,hTA,hc,hb9,⟨⟨_,_,_,_,_,_,_,_,_,_,t2⟩,?_,by rw [List.length_append];have:=M.bt;show _+(_+1)=_;omega,M.und,M.tkd.snoc hc hb9,M.n9,M.s0,M.s8,M.R2⟩⟩
 · rw [t.reads.2.2.2.1]
   rw [t.ask M.s0 hlt,List.getElem?_eq_getElem hTA]
 · refine pm.trans ?_
   rw [List.append_assoc]
   show (A[T].1 :: ((A.drop (T+1)).map (·.1)++(tk++(B.drop Hd).map (·.1)))).Perm _
   refine List.Perm.trans ?_ (List.Perm.append_left _ (List.perm_append_comm_assoc tk [A[T].1] _).symm)
   exact (List.perm_middle (a:=A[T].1)).symm
theorem M8.answer (M:M8 s R n m rs un tk A B T Hd) {nm:Int} (hm:nm∈tk) (h:aheadT ⟨s,R,false⟩ m (rs true) .answered .handed≠s) (wt:Int) :
   M8 s R n m (setR rs true (rs true++layT ⟨s,R,false⟩ m (rs true) true .answered nm wt)) un (tk.erase nm) A (B++[(nm,wt)]) T Hd:=by
 obtain ⟨Wf,Wt,df,dt,A',B',a',h',b',t',t⟩:=M.two
 have hlt:(B.length:Int) < h'+s:=by
   rw [Ne,M.full2] at h
   have h1:=t.waits.1.2
   unfold nC at h
   rw [h1] at h
   have h1:=t.lh;have h2:=t.hb;have h3:=t.lb;have h4:=t.sb
   omega
 obtain ⟨W,t2⟩:=t.answered hlt nm wt
 have hH:=M.TA.2
 have hpos:=List.length_pos_of_mem hm
 refine ⟨⟨_,_,_,_,_,_,_,_,_,_,t2⟩,?_,by rw [List.length_append,List.length_erase_of_mem hm];have:=M.bt;show _+1+_=_;omega,M.und,M.tkd.erase,M.n9,M.s0,M.s8,M.R2⟩
 rw [List.drop_append_of_le_length hH,List.map_append]
 refine M.pm.trans (List.Perm.append_left _ ?_)
 show (tk++_).Perm (tk.erase nm++((B.drop Hd).map (·.1)++[nm]))
 refine (List.Perm.append_right _ (List.perm_cons_erase hm)).trans ?_
 rw [List.cons_append,← List.append_assoc]
 exact (List.perm_append_singleton nm _).symm
theorem M8.collectR (M:M8 s R n m rs un tk A B T Hd) (h:aheadT ⟨s,R,false⟩ m (rs false) .answered .handed≠0):∃ nw,B[Hd]?=some nw/\rdP m (rs false) true (rdC m (rs false) .handed % s)=some nw/\Hd < B.length/\nw.1∈un /\
   M8 s R n m (setR rs false (rs false++[nextT ⟨s,R,false⟩ m (rs false) .handed])) (un.erase nw.1) tk A B T (Hd+1):=by
 obtain ⟨Wf,Wt,df,dt,A',B',a',h',b',t',t⟩:=M.two
 have hlt:Hd < b':=by
   rw [Ne,M.none2] at h
   have h1:=t.waits.2.1
   unfold nC at h
   rw [h1] at h
   have h2:=t.hb;have h3:=t.lb
   omega
 have hHB:Hd < B.length:=by have:=t.lb;omega
 have hd:B.drop Hd=B[Hd] :: B.drop (Hd+1):=List.drop_eq_getElem_cons hHB
 have pm:=M.pm
 rw [hd,List.map_cons] at pm
 have hin:B[Hd].1∈un:=pm.mem_iff.mpr (List.mem_append.mpr (.inr (List.mem_append.mpr (.inr List.mem_cons_self))))
 obtain ⟨W,t2⟩:=t.collected hlt
 refine ⟨B[Hd],List.getElem?_eq_getElem hHB,?_,hHB,hin,⟨⟨_,_,_,_,_,_,_,_,_,_,t2⟩,?_,M.bt,M.und.erase,M.tkd,M.n9,M.s0,M.s8,M.R2⟩⟩
 · rw [t.reads.1.2.1]
   rw [t.answer M.s0 hlt,List.getElem?_eq_getElem hHB]
 · have p2:un.Perm (B[Hd].1 :: ((A.drop T).map (·.1)++(tk++(B.drop (Hd+1)).map (·.1)))):=by
     refine pm.trans ?_
     rw [← List.append_assoc,← List.append_assoc]
     exact List.perm_middle
   have p3:=p2.erase B[Hd].1
   rw [List.erase_cons_head] at p3
   exact p3
theorem M8.drain (M:M8 s R n m rs un tk A B T Hd) (b:Bool) {x:Wr} {rest:List Wr} (e:rs b=x :: rest):M8 s R n (m.put x) (setR rs b rest) un tk A B T Hd:=by
 obtain ⟨Wf,Wt,df,dt,A',B',a',h',b',t',t⟩:=M.two
 cases b with
 | false =>
   obtain ⟨A2,a2,h2,_,_,t2⟩:=t.drainF e
   exact ⟨⟨_,_,_,_,_,_,_,_,_,_,t2⟩,M.pm,M.bt,M.und,M.tkd,M.n9,M.s0,M.s8,M.R2⟩
 | true =>
   obtain ⟨A2,a2,h2,_,_,t2⟩:=t.drainT e
   exact ⟨⟨_,_,_,_,_,_,_,_,_,_,t2⟩,M.pm,M.bt,M.und,M.tkd,M.n9,M.s0,M.s8,M.R2⟩
theorem setR_id (rs:Bool->List Wr) (b:Bool):setR rs b (rs b)=rs:=by
 funext c;unfold setR;split
 · rename_i y;rw [y]
 · rfl
theorem M8.fence (b:Bool):∀ (row:List Wr) {m:Mem} {rs:Bool->List Wr},M8 s R n m rs un tk A B T Hd->rs b=row->M8 s R n (m.putAll row) (setR rs b []) un tk A B T Hd
 | [],m,rs,M,e=>by rw [show setR rs b []=rs by rw [← e,setR_id]];exact M
 | x :: row,m,rs,M,e=>by
   have h:=M8.fence b row (M.drain b e) (by rw [setR_same])
   rw [setR_twice] at h
   exact h
theorem M8.zero {n:Nat} (hs:0 < s) (hs8:s <= 8) (hR:2 <= R) (n9:n <= 9):M8 s R n Mem.zero (λ_=>[]) [] [] [] [] 0 0 :=
 ⟨⟨_,_,_,_,_,_,_,_,_,_,Two.zero hs⟩,List.Perm.refl _,rfl,Nms.nil _,Nms.nil _,n9,hs,hs8,hR⟩
theorem M8.seen (M:M8 s R n m rs un tk A B T Hd):(rs false=[]->(aheadT ⟨s,R,false⟩ m (rs true) .asked .taken=0 ↔ T=A.length)/\(aheadT ⟨s,R,false⟩ m (rs true) .answered .handed=s ↔ (B.length:Int)=Hd+s))/\(rs true=[]->(aheadT ⟨s,R,false⟩ m (rs false) .answered .handed=0 ↔ Hd=B.length)):=by
 refine ⟨λe=>⟨?_,?_⟩,λe=>?_⟩
 · rw [M.none1,e];show (A.length:Int) - ((0:Nat):Int)=T ↔ _;omega
 · rw [M.full2,e];show (B.length:Int) - (Hd - ((0:Nat):Int))=s ↔ _;omega
 · rw [M.none2,e];show (B.length:Int) - ((0:Nat):Int)=Hd ↔ _;omega
end
end L2

namespace L2
open PySem PySem.Spec PyProof.Rows
section
variable {X:Cx}
def isBv (k:Bool):Value->Bool
 | .bool b=>b == k
 | _=>false
def rCountB:V->List V->Hp->VK->Prop:=λx vs H Q=>∃ (l:Addr) (bs:List Bool) (k:Bool),x=.ref l/\vs=[.bl k]/\H l=some (.lst (bs.map V.bl))/\Q (.int (bs.count k:Nat)) H
def rIndexB:V->List V->Hp->VK->Prop:=λx vs H Q=>∃ (l:Addr) (bs:List Bool) (k:Bool),x=.ref l/\vs=[.bl k]/\H l=some (.lst (bs.map V.bl))/\k∈bs/\Q (.int (bs.idxOf k:Nat)) H
theorem bools_of:∀ {bs:List Bool} {us:List Value},Vals (bs.map V.bl) us->us=bs.map Value.bool
 | [],_,.nil=>rfl
 | b :: bs,_,.cons r t=>by
   have r':_=Value.bool b:=r
   rw [r',bools_of t];rfl
theorem countP_isBv (k:Bool):∀ bs:List Bool,(bs.map Value.bool).countP (isBv k)=bs.count k
 | []=>rfl
 | b :: bs=>by
   rw [List.map_cons,List.countP_cons,List.count_cons,countP_isBv k bs];rfl
theorem mt_countB:MtM X "list.count" rCountB:=by
 intro pins s σ H x vs v us Q I rx rv h
 obtain ⟨l,bs,k,rfl,rfl,hH,q⟩:=h
 cases rx
 obtain ⟨u,rfl,ru⟩:=rv.one
 have ru':u=Value.bool k:=ru
 subst ru'
 obtain ⟨z,its,n,r,hl,e⟩:=I.lstM hH
 have hb:=bools_of r
 refine call_meets F.slot_list_count ⟨_,e,rfl⟩ F.entry_list_count (F.args_list_count_2 _ _) (SeqAt.list_countAt l its.toArray n _ _ (.bool k) (isBv k)) ⟨e,λy hy=>?_,?_⟩
 · have hy':y∈bs.map Value.bool:=by rw [← hb];simpa using hy
   obtain ⟨b,_,rfl⟩:=List.mem_map.mp hy'
   exact SeqAt.EqAt.bool_bool b k
 · rw [show its.toArray.toList=its from rfl,hb,countP_isBv]
   exact ⟨.int (bs.count k:Nat),H,I.tok _,⟨_,rfl⟩,q⟩
theorem mt_indexB:MtM X "list.index" rIndexB:=by
 intro pins s σ H x vs v us Q I rx rv h
 obtain ⟨l,bs,k,rfl,rfl,hH,hk,q⟩:=h
 cases rx
 obtain ⟨u,rfl,ru⟩:=rv.one
 have ru':u=Value.bool k:=ru
 subst ru'
 obtain ⟨z,its,n,r,hl,e⟩:=I.lstM hH
 have hb:=bools_of r
 have hj:bs.idxOf k < bs.length:=List.idxOf_lt_length_of_mem hk
 have hlen:its.length=bs.length:=by rw [hb,List.length_map]
 have hn:=line63
 rw [List.length_map] at z
 have at_:∀ m (hm:m < its.toArray.size),∃ hm':m < bs.length,its.toArray[m]=Value.bool bs[m]:=λm hm=>by
   have hm':m < bs.length:=by rw [List.size_toArray] at hm;omega
   refine ⟨hm',?_⟩
   have:its.toArray[m]?=some (Value.bool bs[m]):=by
     rw [← Array.getElem?_toList];show its[m]?=_
     rw [hb,List.getElem?_map,List.getElem?_eq_getElem hm'];rfl
   rw [Array.getElem?_eq_getElem hm] at this
   exact Option.some.inj this
 have hjs:bs.idxOf k < its.toArray.size:=by rw [List.size_toArray,hlen];exact hj
 refine call_meets F.slot_list_index ⟨_,e,rfl⟩ F.entry_list_index (F.args_list_index_2 _ _) (SeqAt.list_indexAt l its.toArray n _ _ (.bool k) (isBv k) (bs.idxOf k) hjs (by omega) ?_ ?_) ⟨e,λy hy=>?_,?_⟩
 · obtain ⟨h1,h2⟩:=at_ _ hjs
   rw [h2]
   show (bs[bs.idxOf k] == k)=true
   rw [List.getElem_idxOf hj];cases k<;>rfl
 · intro m hm hlt
   obtain ⟨h1,h2⟩:=at_ _ hm
   rw [h2]
   show (bs[m] == k)=false
   have:=List.not_of_lt_findIdx (p:=(· == k)) (xs:=bs) (i:=m) hlt
   simpa using this
 · have hy':y∈bs.map Value.bool:=by rw [← hb];simpa using hy
   obtain ⟨b,_,rfl⟩:=List.mem_map.mp hy'
   exact SeqAt.EqAt.bool_bool b k
 · exact ⟨.int (bs.idxOf k:Nat),H,I.tok _,⟨_,rfl⟩,q⟩
end
end L2

namespace L2
open PySem PySem.Spec PyProof.Rows
section
variable {X:Cx}
def rngO (x:Addr) (lo hi:Int):HO:=.ext λh=>∃ t u v,IsRange h x lo hi 1 t u v
theorem rngO_ok {P:Program} {w:World} {H':Hp} {h:Heap} {x:Addr} {lo hi:Int} {t u v:Tok} (e:IsRange h x lo hi 1 t u v):ObjOk P w H' h x (rngO x lo hi) :=
 ⟨⟨t,u,v,e⟩,⟨_,e⟩,λ_ _ ⟨t',u',v',e'⟩ k=>⟨t',u',v',k _ e'⟩⟩
def rngV (lo:Int) (n:Nat):List V:=(List.range n).map λ(j:Nat)=>V.int (lo+j)
theorem call_range1:CallR X (.type "range") (λxs H Q=>∃ j:Int,xs=[.int j]/\∀ l,H l=none->Q (.ref l) (upd H l (rngO l 0 j))):=by
 intro pins s σ H xs us Q I r h
 obtain ⟨j,rfl,q⟩:=h
 obtain ⟨u,rfl,t,rfl⟩:=vals1 r
 refine call_range_1 ⟨.ref s.heap.objs.size,_,I.laid (λb ob q=>Heap.get?_push_of_some _ q) (Nat.le_refl _) (rngO_ok (IsRange.new ..)),rfl,q _ (I.hok.fresh (Nat.le_refl _))⟩
theorem vals_rng {lo:Int} {acc:Array Value} {n:Nat} (h:ItemsOf (λi v=>∃ t,v=Value.int (lo+(i:Int) * 1) t) acc n):Vals (rngV lo n) acc.toList:=by
 obtain ⟨h1,h2⟩:=h
 have go:∀ (k:Nat) (l:List Value),l.length=k->(∀ (j:Nat) v,l[j]?=some v->∃ t,v=Value.int (lo+(j:Int)) t)->Vals (rngV lo k) l:=by
   intro k
   induction k with
   | zero=>intro l hl _;rw [List.length_eq_zero_iff.mp hl];exact .nil
   | succ k ih =>
     intro l hl hv
     have hne:l≠[]:=λy=>by rw [y] at hl;cases hl
     rw [← List.dropLast_concat_getLast hne]
     have hdl:l.dropLast.length=k:=by rw [List.length_dropLast,hl];rfl
     have e1:rngV lo (k+1)=rngV lo k++[V.int (lo+k)]:=by unfold rngV;rw [List.range_succ,List.map_append];rfl
     rw [e1]
     refine Vals.append (ih _ hdl λj v hj=>hv j v ?_) ?_
     · have hjk:j < k:=by rw [← hdl];exact (List.getElem?_eq_some_iff.mp hj).1
       rw [List.getElem?_dropLast,if_pos (by omega)] at hj;exact hj
     · obtain ⟨t,e⟩:=hv k _ (by rw [List.getElem?_eq_getElem (by omega)])
       have:l.getLast hne=.int (lo+k) t:=by rw [List.getLast_eq_getElem];simp only [hl,Nat.add_sub_cancel];exact e
       rw [this]
       exact .cons ⟨t,rfl⟩ .nil
 refine go n acc.toList (by simpa using h1) λj v hj=>?_
 obtain ⟨t,e⟩:=h2 j v (by rw [← Array.getElem?_toList];exact hj)
 exact ⟨t,by rw [e,Int.mul_one]⟩
theorem call_list_rng (hc:X.calm=true):CallR X (.type "list") (λxs H Q=>∃ p lo hi,xs=[.ref p]/\H p=some (rngO p lo hi)/\(-(2 ^ 62) <= lo/\lo < 2 ^ 62/\-(2 ^ 62) <= hi/\hi < 2 ^ 62)/\(hi - lo).toNat <= sizeLine/\∀ l,H l=none->Q (.ref l) (upd H l (.lst (rngV lo (hi - lo).toNat)))):=by
 intro pins s σ H xs us Q I r h
 obtain ⟨p,lo,hi,rfl,hp,⟨b1,b2,b3,b4⟩,hz,q⟩:=h
 obtain ⟨u,rfl,rx⟩:=vals1 r
 cases rx
 obtain ⟨⟨t,u,v,e⟩,_⟩:=(show ObjOk X.prog X.w H s.heap p (rngO p lo hi) from I.hok p _ hp)
 refine call_list_range (I.ok.hd hc) e (small_one b1 b2 b3 b4) (n:=(hi - lo).toNat) (by rw [rangeSize_one];split<;>omega) hz λh' tk acc' c' kp e' ia=>?_
 have vv:=vals_rng ia
 have hl:(rngV lo (hi - lo).toNat).length <= sizeLine:=by unfold rngV;rw [List.length_map,List.length_range];exact hz
 exact ⟨.ref s.heap.objs.size,_,I.laid kp (Nat.le_refl _) (show ObjOk X.prog X.w _ h' _ (.lst _) from ⟨hl,acc'.toList,c',vv,by rw [e']⟩),rfl,q _ (I.hok.fresh (Nat.le_refl _))⟩
theorem bt_min:bootBuiltins "min"=some (.builtin "min"):=by decide +kernel
end
end L2

namespace L2
open PySem PySem.Spec PyProof.Rows
def own5 (z:HA) (zt:TA') (sa:SA) (c:Addr):Prop:=z.own c\/zt.own c\/sa.own c
def own6 (z:HA) (zt:TA') (sa:SA) (g:Addr) (c:Addr):Prop:=own5 z zt sa c\/c=g
structure X5 (w:World) (CH CT CR CS:Addr) (H:Hp) (z:HA) (zt:TA') (sa:SA) (p:RP) (n:Nat) (m:Mem) (rs:Bool->List Wr) (un tk:List Int):Prop where
 hn:Hn CH CR H z sa.x p n un
 tn:Tn CT CR H zt sa.x p tk
 st:StT w CS H sa m rs
 dz:∀ c,z.own c->¬ zt.own c
section
variable {w:World} {CH CT CR CS:Addr} {H H':Hp} {z:HA} {zt:TA'} {sa:SA} {p:RP} {n:Nat} {m m':Mem} {rs rs':Bool->List Wr} {un tk un' tk':List Int}
theorem X5.keep (W:X5 w CH CT CR CS H z zt sa p n m rs un tk) (k:∀ c o,own5 z zt sa c->H c=some o->H' c=some o) (ht:∀ b vs,H b=some (.tup vs)->H' b=some (.tup vs)):X5 w CH CT CR CS H' z zt sa p n m rs un tk :=
 ⟨W.hn.keep λc o h=>k c o (.inl h),W.tn.keep λc o h=>k c o (.inr (.inl h)),W.st.keep (λc o h=>k c o (.inr (.inr h))) ht,W.dz⟩
theorem X5.same (W:X5 w CH CT CR CS H z zt sa p n m rs un tk) (s':Same H H'):X5 w CH CT CR CS H' z zt sa p n m rs un tk:=W.keep (λc o _=>s' c o) λb vs=>s' b _
theorem X5.there (W:X5 w CH CT CR CS H z zt sa p n m rs un tk) {c:Addr} (h:own5 z zt sa c):∃ o,H c=some o/\∀ vs,o≠.tup vs:=by
 rcases h with h | h | h
 · obtain ⟨o,e,⟨_,_,_,s⟩ | ⟨_,s⟩⟩:=W.hn.there h
   · exact ⟨o,e,λvs y=>by rw [y] at s;cases s⟩
   · exact ⟨o,e,λvs y=>by rw [y] at s;cases s⟩
 · obtain ⟨o,e,⟨_,_,_,s⟩ | ⟨_,s⟩⟩:=W.tn.there h
   · exact ⟨o,e,λvs y=>by rw [y] at s;cases s⟩
   · exact ⟨o,e,λvs y=>by rw [y] at s;cases s⟩
 · exact W.st.there h
theorem hn_l5 {p:RP} {st:Addr} {nn:Int} {aw:List Int} (B:Hn CH CR H z st p nn aw) (S:StT w CS H sa m rs) (b:Bool):¬ z.own (sa.l b):=λhc=>by
 obtain ⟨o1,q1,s1⟩:=B.there hc
 obtain ⟨M,r,S',_⟩:=S
 obtain ⟨ts,e,_⟩:=S'.rw b
 rw [e] at q1
 cases q1
 rcases s1 with ⟨_,_,_,s⟩ | ⟨_,s⟩<;>cases s
theorem tn_l5 {p:RP} {st:Addr} {aw:List Int} (B:Tn CT CR H zt st p aw) (S:StT w CS H sa m rs) (b:Bool):¬ zt.own (sa.l b):=λhc=>by
 obtain ⟨o1,q1,s1⟩:=B.there hc
 obtain ⟨M,r,S',_⟩:=S
 obtain ⟨ts,e,_⟩:=S'.rw b
 rw [e] at q1
 cases q1
 rcases s1 with ⟨_,_,_,s⟩ | ⟨_,s⟩<;>cases s
theorem X5.tups (W:X5 w CH CT CR CS H z zt sa p n m rs un tk) {xs:List Addr} (kp:Kp xs H H') (h:∀ c∈xs,own5 z zt sa c):∀ b vs,H b=some (.tup vs)->H' b=some (.tup vs):=λb vs e=>kp b _ (λmm=>by
 obtain ⟨o,e',nn⟩:=W.there (h b mm)
 rw [e'] at e;exact nn vs (Option.some.inj e)) e
theorem own5_h:∀ c∈[z.gd,sa.l false],own5 z zt sa c:=λc hc=>by
 rcases List.mem_cons.mp hc with y | y
 · rw [y];exact .inl (.inr (.inr (.inr rfl)))
 · rw [List.mem_singleton.mp y];exact .inr (.inr (own_l false))
theorem own5_t:∀ c∈[zt.gd,sa.l true],own5 z zt sa c:=λc hc=>by
 rcases List.mem_cons.mp hc with y | y
 · rw [y];exact .inr (.inl (.inr (.inr (.inr rfl))))
 · rw [List.mem_singleton.mp y];exact .inr (.inr (own_l true))
theorem own5_s {b:Bool}:∀ c∈[sa.l b,sa.hd],own5 z zt sa c:=λc hc=>by
 rcases List.mem_cons.mp hc with y | y
 · rw [y];exact .inr (.inr (own_l b))
 · rw [List.mem_singleton.mp y];exact .inr (.inr own_hd)
theorem X5.hand (W:X5 w CH CT CR CS H z zt sa p n m rs un tk) (hn':Hn CH CR H' z sa.x p n un') (st':StT w CS H' sa m' rs') (kp:Kp [z.gd,sa.l false] H H'):X5 w CH CT CR CS H' z zt sa p n m' rs' un' tk:=by
 refine ⟨hn',W.tn.keep λc o hc e=>kp c o (λmm=>?_) e,st',W.dz⟩
 rcases List.mem_cons.mp mm with y | y
 · exact W.dz c (by rw [y];exact .inr (.inr (.inr rfl))) hc
 · exact tn_l5 W.tn W.st false (by rw [← List.mem_singleton.mp y];exact hc)
theorem X5.heart (W:X5 w CH CT CR CS H z zt sa p n m rs un tk) (tn':Tn CT CR H' zt sa.x p tk') (st':StT w CS H' sa m' rs') (kp:Kp [zt.gd,sa.l true] H H'):X5 w CH CT CR CS H' z zt sa p n m' rs' un tk':=by
 refine ⟨W.hn.keep λc o hc e=>kp c o (λmm=>?_) e,tn',st',W.dz⟩
 rcases List.mem_cons.mp mm with y | y
 · exact W.dz c hc (by rw [y];exact .inr (.inr (.inr rfl)))
 · exact hn_l5 W.hn W.st true (by rw [← List.mem_singleton.mp y];exact hc)
theorem X5.store (W:X5 w CH CT CR CS H z zt sa p n m rs un tk) {b:Bool} (st':StT w CS H' sa m' rs') (kp:Kp [sa.l b,sa.hd] H H'):X5 w CH CT CR CS H' z zt sa p n m' rs' un tk:=by
 have hx:∀ c∈[sa.l b,sa.hd],(∃ ys,H c=some (.lst ys))\/∃ ee:List DictEntry × Nat,H c=some (DObj c ee.1 ee.2):=λc hc=>by
   obtain ⟨M,r,S,_⟩:=W.st
   rcases List.mem_cons.mp hc with y | y
   · obtain ⟨ts,e,_⟩:=S.rw b
     exact .inl ⟨ts,by rw [y];exact e⟩
   · obtain ⟨ee,e⟩:=S.me.there
     exact .inr ⟨ee,by rw [List.mem_singleton.mp y];exact e⟩
 exact ⟨W.hn.lists kp hx,W.tn.lists kp hx,st',W.dz⟩
theorem ko_5 {own:Addr->Prop} {H1 H2 H3:Hp} (h1:KO own H1 H2) (h2:KO own H2 H3):KO own H1 H3:=h1.trans h2 λ_ hc=>.inl hc
end
theorem DV2 {H:Hp} {c:Addr} {x y:Int} (h:H c=some (.tup [.int x,.int y])):DV H (.tuple [.int x,.int y]) (.ref c):=⟨c,_,rfl,h,_,_,rfl,rfl,_,_,rfl,rfl,rfl⟩
theorem nC_snoc (k:Cn) (row:List Wr) (x:Wr):nC k (row++[x])=nC k row+if isC k x=true then 1 else 0:=by
 unfold nC
 rw [List.filter_append,List.length_append,List.filter_cons,List.filter_nil]
 split<;>rfl
theorem nC_app (k:Cn) (r1 r2:List Wr):nC k (r1++r2)=nC k r1+nC k r2:=by
 unfold nC
 rw [List.filter_append,List.length_append]
theorem atI_at {xs:List V} {j:Nat} {v:V} (h:xs[j]?=some v):atI xs (j:Int)=some v:=by
 unfold atI ixN
 have hl:=(List.getElem?_eq_some_iff.mp h).1
 rw [if_pos (by omega),if_pos (by omega)]
 exact h
def upto (k:Nat):List Int:=(List.range k).map λ(j:Nat)=>(j:Int)
theorem upto_len (k:Nat):(upto k).length=k:=by unfold upto;rw [List.length_map,List.length_range]
theorem upto_succ (k:Nat):upto (k+1)=upto k++[(k:Int)]:=by unfold upto;rw [List.range_succ,List.map_append];rfl
theorem upto_mem {k:Nat} {x:Int}:x∈upto k ↔ 0 <= x/\x < k:=by
 unfold upto
 rw [List.mem_map]
 constructor
 · rintro ⟨j,hj,rfl⟩
   have:=List.mem_range.mp hj
   omega
 · rintro ⟨h0,h1⟩
   exact ⟨x.toNat,List.mem_range.mpr (by omega),by omega⟩
theorem upto_has (k:Nat) (x:Int):(upto k).contains x=decide (0 <= x/\x < k):=by
 rw [List.contains_eq_mem]
 exact decide_eq_decide.mpr upto_mem
theorem least_upto {n k:Nat} (h:k < n):least n (upto k)=some (k:Int) :=
 least_some h (by rw [upto_has,decide_eq_false_iff_not];omega) λj hj=>by rw [upto_has,decide_eq_true_eq];omega
theorem least_upto_none {n k:Nat} (h:n <= k):least n (upto k)=none :=
 least_none λj hj=>by rw [upto_has,decide_eq_true_eq];omega
theorem upto_get {k j:Nat} (h:j < k):(upto k)[j]?=some (j:Int):=by
 unfold upto
 rw [List.getElem?_map,List.getElem?_eq_getElem (by rw [List.length_range];exact h),List.getElem_range];rfl
end L2

set_option maxHeartbeats 4000000
namespace My
open PySem L2
def top (i:Nat):Stmt:=PySem.Challenge.pw_askring_k15_refused_then_taken.main.body.getD i (.Pass ⟨0,0,0,0⟩)
abbrev s_wall:Stmt:=top 0
abbrev s_next_counter:Stmt:=top 9
abbrev s_place_of:Stmt:=top 10
abbrev s_ahead_by:Stmt:=top 11
abbrev s_rounds_with:Stmt:=top 15
abbrev s_Ring__init:Stmt:=inClass (top 16) 0
abbrev s_Ring_filled:Stmt:=inClass (top 16) 1
abbrev s_Ring_is_full:Stmt:=inClass (top 16) 2
abbrev s_Ring_place_at:Stmt:=inClass (top 16) 3
abbrev s_Ring_write_further:Stmt:=inClass (top 16) 4
abbrev s_Ring_lay:Stmt:=inClass (top 16) 5
abbrev s_Ring_fetch:Stmt:=inClass (top 16) 6
abbrev s_Hand__init:Stmt:=inClass (top 18) 0
abbrev s_Hand_become:Stmt:=inClass (top 18) 1
abbrev s_Hand_least_free:Stmt:=inClass (top 18) 2
abbrev s_Hand_check_ask:Stmt:=inClass (top 18) 3
abbrev s_Hand_ask:Stmt:=inClass (top 18) 4
abbrev s_Hand_collect:Stmt:=inClass (top 18) 5
abbrev s_Hand_under_way:Stmt:=inClass (top 18) 6
abbrev s_Hand_something_waits:Stmt:=inClass (top 18) 7
abbrev s_Heart__init:Stmt:=inClass (top 20) 0
abbrev s_Heart_become:Stmt:=inClass (top 20) 1
abbrev s_Heart_take:Stmt:=inClass (top 20) 2
abbrev s_Heart_check_answer:Stmt:=inClass (top 20) 3
abbrev s_Heart_answer:Stmt:=inClass (top 20) 4
abbrev s_Heart_tasks:Stmt:=inClass (top 20) 5
abbrev s_Heart_something_waits:Stmt:=inClass (top 20) 6
abbrev s_Store__init:Stmt:=inClass (top 22) 0
abbrev s_Store_become:Stmt:=inClass (top 22) 1
abbrev s_Store_write:Stmt:=inClass (top 22) 2
abbrev s_Store_drain:Stmt:=inClass (top 22) 3
abbrev s_Store_fence:Stmt:=inClass (top 22) 4
abbrev s_Store_read:Stmt:=inClass (top 22) 5
abbrev s_Store_memory:Stmt:=inClass (top 22) 6
abbrev s_Store_waits:Stmt:=inClass (top 22) 7
abbrev s_Store_cells:Stmt:=inClass (top 22) 8
abbrev s_law_well:Stmt:=top 24
abbrev s_law_draw:Stmt:=top 25
abbrev s_law_same:Stmt:=top 26
abbrev s_law_worth:Stmt:=top 27
abbrev s_law_size:Stmt:=top 28
abbrev s_law_names:Stmt:=top 29
abbrev s_law_kind:Stmt:=top 30
abbrev s_law_asked:Stmt:=top 31
abbrev s_law_answered:Stmt:=top 32
abbrev s_law_seen:Stmt:=top 33
abbrev s_law_refused:Stmt:=top 34
abbrev s_law_all_asked:Stmt:=top 35
abbrev s_law_asked_again:Stmt:=top 36
abbrev s_law_answered_all:Stmt:=top 37
abbrev s_law:Stmt:=top 38
theorem sc_next_counter:FnScope ["counter","size","rounds"] ["counter","size","rounds"] (defScope s_next_counter):=⟨rfl,rfl,rfl,by decide +kernel,rfl,by decide +kernel,by decide +kernel⟩
theorem sc_place_of:FnScope ["counter","size"] ["counter","size"] (defScope s_place_of):=⟨rfl,rfl,rfl,by decide +kernel,rfl,by decide +kernel,by decide +kernel⟩
theorem sc_ahead_by:FnScope ["one","other","size","rounds"] ["one","other","size","rounds"] (defScope s_ahead_by):=⟨rfl,rfl,rfl,by decide +kernel,rfl,by decide +kernel,by decide +kernel⟩
theorem sc_rounds_with:FnScope ["rounds","faults"] ["rounds","faults"] (defScope s_rounds_with):=⟨rfl,rfl,rfl,by decide +kernel,rfl,by decide +kernel,by decide +kernel⟩
theorem sc_Ring__init:FnScope ["self","store","side","words","size","rounds","faults"] ["self","store","side","words","size","rounds","faults"] (defScope s_Ring__init):=⟨rfl,rfl,rfl,by decide +kernel,rfl,by decide +kernel,by decide +kernel⟩
theorem sc_Ring_filled:FnScope ["self","laid","fetched"] ["self"] (defScope s_Ring_filled):=⟨rfl,rfl,rfl,by decide +kernel,rfl,by decide +kernel,by decide +kernel⟩
theorem sc_Ring_is_full:FnScope ["self"] ["self"] (defScope s_Ring_is_full):=⟨rfl,rfl,rfl,by decide +kernel,rfl,by decide +kernel,by decide +kernel⟩
theorem sc_Ring_place_at:FnScope ["self","counter"] ["self","counter"] (defScope s_Ring_place_at):=⟨rfl,rfl,rfl,by decide +kernel,rfl,by decide +kernel,by decide +kernel⟩
theorem sc_Ring_write_further:FnScope ["self","cell","counter"] ["self","cell","counter"] (defScope s_Ring_write_further):=⟨rfl,rfl,rfl,by decide +kernel,rfl,by decide +kernel,by decide +kernel⟩
theorem sc_Ring_lay:FnScope ["self","name","worth","counter"] ["self","name","worth"] (defScope s_Ring_lay):=⟨rfl,rfl,rfl,by decide +kernel,rfl,by decide +kernel,by decide +kernel⟩
theorem sc_Ring_fetch:FnScope ["self","counter","found"] ["self"] (defScope s_Ring_fetch):=⟨rfl,rfl,rfl,by decide +kernel,rfl,by decide +kernel,by decide +kernel⟩
theorem sc_Hand__init:FnScope ["self","store","size","rounds","names","faults"] ["self","store","size","rounds","names","faults"] (defScope s_Hand__init):=⟨rfl,rfl,rfl,by decide +kernel,rfl,by decide +kernel,by decide +kernel⟩
theorem sc_Hand_least_free:FnScope ["self","name"] ["self"] (defScope s_Hand_least_free):=⟨rfl,rfl,rfl,by decide +kernel,rfl,by decide +kernel,by decide +kernel⟩
theorem sc_Hand_check_ask:FnScope ["self"] ["self"] (defScope s_Hand_check_ask):=⟨rfl,rfl,rfl,by decide +kernel,rfl,by decide +kernel,by decide +kernel⟩
theorem sc_Hand_ask:FnScope ["self","worth","name"] ["self","worth"] (defScope s_Hand_ask):=⟨rfl,rfl,rfl,by decide +kernel,rfl,by decide +kernel,by decide +kernel⟩
theorem sc_Hand_collect:FnScope ["self","told"] ["self"] (defScope s_Hand_collect):=⟨rfl,rfl,rfl,by decide +kernel,rfl,by decide +kernel,by decide +kernel⟩
theorem sc_Hand_under_way:FnScope ["self"] ["self"] (defScope s_Hand_under_way):=⟨rfl,rfl,rfl,by decide +kernel,rfl,by decide +kernel,by decide +kernel⟩
theorem sc_Heart__init:FnScope ["self","store","size","rounds","faults"] ["self","store","size","rounds","faults"] (defScope s_Heart__init):=⟨rfl,rfl,rfl,by decide +kernel,rfl,by decide +kernel,by decide +kernel⟩
theorem sc_Heart_take:FnScope ["self","told"] ["self"] (defScope s_Heart_take):=⟨rfl,rfl,rfl,by decide +kernel,rfl,by decide +kernel,by decide +kernel⟩
theorem sc_Heart_check_answer:FnScope ["self","name"] ["self","name"] (defScope s_Heart_check_answer):=⟨rfl,rfl,rfl,by decide +kernel,rfl,by decide +kernel,by decide +kernel⟩
theorem sc_Heart_answer:FnScope ["self","name","worth"] ["self","name","worth"] (defScope s_Heart_answer):=⟨rfl,rfl,rfl,by decide +kernel,rfl,by decide +kernel,by decide +kernel⟩
theorem sc_Heart_tasks:FnScope ["self"] ["self"] (defScope s_Heart_tasks):=⟨rfl,rfl,rfl,by decide +kernel,rfl,by decide +kernel,by decide +kernel⟩
theorem sc_Store__init:FnScope ["self"] ["self"] (defScope s_Store__init):=⟨rfl,rfl,rfl,by decide +kernel,rfl,by decide +kernel,by decide +kernel⟩
theorem sc_Store_write:FnScope ["self","side","cell","worth"] ["self","side","cell","worth"] (defScope s_Store_write):=⟨rfl,rfl,rfl,by decide +kernel,rfl,by decide +kernel,by decide +kernel⟩
theorem sc_Store_drain:FnScope ["self","side","first"] ["self","side"] (defScope s_Store_drain):=⟨rfl,rfl,rfl,by decide +kernel,rfl,by decide +kernel,by decide +kernel⟩
theorem sc_Store_fence:FnScope ["self","side"] ["self","side"] (defScope s_Store_fence):=⟨rfl,rfl,rfl,by decide +kernel,rfl,by decide +kernel,by decide +kernel⟩
theorem sc_Store_read:FnScope ["self","side","cell","waiting"] ["self","side","cell"] (defScope s_Store_read):=⟨rfl,rfl,rfl,by decide +kernel,rfl,by decide +kernel,by decide +kernel⟩
theorem sc_Store_memory:FnScope ["self","cell"] ["self","cell"] (defScope s_Store_memory):=⟨rfl,rfl,rfl,by decide +kernel,rfl,by decide +kernel,by decide +kernel⟩
theorem sc_Store_waits:FnScope ["self","side"] ["self","side"] (defScope s_Store_waits):=⟨rfl,rfl,rfl,by decide +kernel,rfl,by decide +kernel,by decide +kernel⟩
theorem sc_law_well:FnScope ["cell"] ["cell"] (defScope s_law_well):=⟨rfl,rfl,rfl,by decide +kernel,rfl,by decide +kernel,by decide +kernel⟩
theorem sc_law_draw:FnScope ["well","many","got","stirred"] ["well","many"] (defScope s_law_draw):=⟨rfl,rfl,rfl,by decide +kernel,rfl,by decide +kernel,by decide +kernel⟩
theorem sc_law_same:FnScope ["got","due","one","other"] ["got","due"] (defScope s_law_same):=⟨rfl,rfl,rfl,by decide +kernel,rfl,by decide +kernel,by decide +kernel⟩
theorem sc_law_worth:FnScope ["well","far"] ["well"] (defScope s_law_worth):=⟨rfl,rfl,rfl,by decide +kernel,rfl,by decide +kernel,by decide +kernel⟩
theorem sc_law_size:FnScope ["well"] ["well"] (defScope s_law_size):=⟨rfl,rfl,rfl,by decide +kernel,rfl,by decide +kernel,by decide +kernel⟩
theorem sc_law_names:FnScope ["well"] ["well"] (defScope s_law_names):=⟨rfl,rfl,rfl,by decide +kernel,rfl,by decide +kernel,by decide +kernel⟩
theorem sc_law_kind:FnScope ["error","kinds"] ["error"] (defScope s_law_kind):=⟨rfl,rfl,rfl,by decide +kernel,rfl,by decide +kernel,by decide +kernel⟩
theorem sc_law_asked:FnScope ["hand","worth","caught","got","e"] ["hand","worth"] (defScope s_law_asked):=⟨rfl,rfl,rfl,by decide +kernel,rfl,by decide +kernel,by decide +kernel⟩
theorem sc_law_answered:FnScope ["heart","name","worth","caught","got","e"] ["heart","name","worth"] (defScope s_law_answered):=⟨rfl,rfl,rfl,by decide +kernel,rfl,by decide +kernel,by decide +kernel⟩
theorem sc_law_seen:FnScope ["store","hand","heart"] ["store","hand","heart"] (defScope s_law_seen):=⟨rfl,rfl,rfl,by decide +kernel,rfl,by decide +kernel,by decide +kernel⟩
theorem sc_law_refused:FnScope ["well","store","hand","heart","due","before","k","got","strange"] ["well","store","hand","heart","due"] (defScope s_law_refused):=⟨rfl,rfl,rfl,by decide +kernel,rfl,by decide +kernel,by decide +kernel⟩
theorem sc_law_all_asked:FnScope ["well","store","hand","heart","size","names","name"] ["well","store","hand","heart","size","names"] (defScope s_law_all_asked):=⟨rfl,rfl,rfl,by decide +kernel,rfl,by decide +kernel,by decide +kernel⟩
theorem sc_law_asked_again:FnScope ["well","store","hand","heart","size","names","name","told"] ["well","store","hand","heart","size","names"] (defScope s_law_asked_again):=⟨rfl,rfl,rfl,by decide +kernel,rfl,by decide +kernel,by decide +kernel⟩
theorem sc_law_answered_all:FnScope ["well","store","hand","heart","size","names","tasks","name"] ["well","store","hand","heart","size","names"] (defScope s_law_answered_all):=⟨rfl,rfl,rfl,by decide +kernel,rfl,by decide +kernel,by decide +kernel⟩
theorem sc_law:FnScope ["script","cell","well","size","rounds","names","store","hand","heart"] ["script"] (defScope s_law):=⟨rfl,rfl,rfl,by decide +kernel,rfl,by decide +kernel,by decide +kernel⟩
structure Ad where
 wall:Addr
 next_counter:Addr
 place_of:Addr
 ahead_by:Addr
 rounds_with:Addr
 Ring__init:Addr
 Ring_filled:Addr
 Ring_is_full:Addr
 Ring_place_at:Addr
 Ring_write_further:Addr
 Ring_lay:Addr
 Ring_fetch:Addr
 Hand__init:Addr
 Hand_become:Addr
 Hand_least_free:Addr
 Hand_check_ask:Addr
 Hand_ask:Addr
 Hand_collect:Addr
 Hand_under_way:Addr
 Hand_something_waits:Addr
 Heart__init:Addr
 Heart_become:Addr
 Heart_take:Addr
 Heart_check_answer:Addr
 Heart_answer:Addr
 Heart_tasks:Addr
 Heart_something_waits:Addr
 Store__init:Addr
 Store_become:Addr
 Store_write:Addr
 Store_drain:Addr
 Store_fence:Addr
 Store_read:Addr
 Store_memory:Addr
 Store_waits:Addr
 Store_cells:Addr
 law_well:Addr
 law_draw:Addr
 law_same:Addr
 law_worth:Addr
 law_size:Addr
 law_names:Addr
 law_kind:Addr
 law_asked:Addr
 law_answered:Addr
 law_seen:Addr
 law_refused:Addr
 law_all_asked:Addr
 law_asked_again:Addr
 law_answered_all:Addr
 law:Addr
 Ring:Addr
 Hand:Addr
 Heart:Addr
 Store:Addr
 RingError:Addr
 Full:Addr
 NoName:Addr
 NoTask:Addr
 NoDeed:Addr
 NoRow:Addr
 T_ASKS:Addr
 T_ANSWERS:Addr
structure Fd where
 wall:FuncData
 next_counter:FuncData
 place_of:FuncData
 ahead_by:FuncData
 rounds_with:FuncData
 Ring__init:FuncData
 Ring_filled:FuncData
 Ring_is_full:FuncData
 Ring_place_at:FuncData
 Ring_write_further:FuncData
 Ring_lay:FuncData
 Ring_fetch:FuncData
 Hand__init:FuncData
 Hand_become:FuncData
 Hand_least_free:FuncData
 Hand_check_ask:FuncData
 Hand_ask:FuncData
 Hand_collect:FuncData
 Hand_under_way:FuncData
 Hand_something_waits:FuncData
 Heart__init:FuncData
 Heart_become:FuncData
 Heart_take:FuncData
 Heart_check_answer:FuncData
 Heart_answer:FuncData
 Heart_tasks:FuncData
 Heart_something_waits:FuncData
 Store__init:FuncData
 Store_become:FuncData
 Store_write:FuncData
 Store_drain:FuncData
 Store_fence:FuncData
 Store_read:FuncData
 Store_memory:FuncData
 Store_waits:FuncData
 Store_cells:FuncData
 law_well:FuncData
 law_draw:FuncData
 law_same:FuncData
 law_worth:FuncData
 law_size:FuncData
 law_names:FuncData
 law_kind:FuncData
 law_asked:FuncData
 law_answered:FuncData
 law_seen:FuncData
 law_refused:FuncData
 law_all_asked:FuncData
 law_asked_again:FuncData
 law_answered_all:FuncData
 law:FuncData
structure Gs (K:PySem.W.Frag) (mg:Str->Option Value) (a:Ad) (d:Fd):Prop where
 f_wall:Fun K "_wall" "_wall" s_wall a.wall d.wall
 b_wall:Binds K d.wall ["k"] []
 m_wall:mg "_wall"=some (.ref a.wall)
 f_next_counter:Fun K "next_counter" "next_counter" s_next_counter a.next_counter d.next_counter
 b_next_counter:Binds K d.next_counter ["counter","size","rounds"] []
 m_next_counter:mg "next_counter"=some (.ref a.next_counter)
 f_place_of:Fun K "place_of" "place_of" s_place_of a.place_of d.place_of
 b_place_of:Binds K d.place_of ["counter","size"] []
 m_place_of:mg "place_of"=some (.ref a.place_of)
 f_ahead_by:Fun K "ahead_by" "ahead_by" s_ahead_by a.ahead_by d.ahead_by
 b_ahead_by:Binds K d.ahead_by ["one","other","size","rounds"] []
 m_ahead_by:mg "ahead_by"=some (.ref a.ahead_by)
 f_rounds_with:Fun K "rounds_with" "rounds_with" s_rounds_with a.rounds_with d.rounds_with
 b_rounds_with:Binds K d.rounds_with ["rounds","faults"] []
 m_rounds_with:mg "rounds_with"=some (.ref a.rounds_with)
 f_Ring__init:Fun K "__init__" "Ring.__init__" s_Ring__init a.Ring__init d.Ring__init
 b_Ring__init:Binds K d.Ring__init ["self","store","side","words","size","rounds","faults"] []
 f_Ring_filled:Fun K "filled" "Ring.filled" s_Ring_filled a.Ring_filled d.Ring_filled
 b_Ring_filled:Binds K d.Ring_filled ["self"] []
 mt_Ring_filled:Meth K a.Ring "filled" a.Ring_filled
 f_Ring_is_full:Fun K "is_full" "Ring.is_full" s_Ring_is_full a.Ring_is_full d.Ring_is_full
 b_Ring_is_full:Binds K d.Ring_is_full ["self"] []
 mt_Ring_is_full:Meth K a.Ring "is_full" a.Ring_is_full
 f_Ring_place_at:Fun K "place_at" "Ring.place_at" s_Ring_place_at a.Ring_place_at d.Ring_place_at
 b_Ring_place_at:Binds K d.Ring_place_at ["self","counter"] []
 mt_Ring_place_at:Meth K a.Ring "place_at" a.Ring_place_at
 f_Ring_write_further:Fun K "write_further" "Ring.write_further" s_Ring_write_further a.Ring_write_further d.Ring_write_further
 b_Ring_write_further:Binds K d.Ring_write_further ["self","cell","counter"] []
 mt_Ring_write_further:Meth K a.Ring "write_further" a.Ring_write_further
 f_Ring_lay:Fun K "lay" "Ring.lay" s_Ring_lay a.Ring_lay d.Ring_lay
 b_Ring_lay:Binds K d.Ring_lay ["self","name","worth"] []
 mt_Ring_lay:Meth K a.Ring "lay" a.Ring_lay
 f_Ring_fetch:Fun K "fetch" "Ring.fetch" s_Ring_fetch a.Ring_fetch d.Ring_fetch
 b_Ring_fetch:Binds K d.Ring_fetch ["self"] []
 mt_Ring_fetch:Meth K a.Ring "fetch" a.Ring_fetch
 f_Hand__init:Fun K "__init__" "Hand.__init__" s_Hand__init a.Hand__init d.Hand__init
 b_Hand__init:Binds K d.Hand__init ["self","store","size","rounds","names","faults"] []
 f_Hand_become:Fun K "become" "Hand.become" s_Hand_become a.Hand_become d.Hand_become
 b_Hand_become:Binds K d.Hand_become ["self","one"] []
 mt_Hand_become:Meth K a.Hand "become" a.Hand_become
 f_Hand_least_free:Fun K "least_free" "Hand.least_free" s_Hand_least_free a.Hand_least_free d.Hand_least_free
 b_Hand_least_free:Binds K d.Hand_least_free ["self"] []
 mt_Hand_least_free:Meth K a.Hand "least_free" a.Hand_least_free
 f_Hand_check_ask:Fun K "check_ask" "Hand.check_ask" s_Hand_check_ask a.Hand_check_ask d.Hand_check_ask
 b_Hand_check_ask:Binds K d.Hand_check_ask ["self"] []
 mt_Hand_check_ask:Meth K a.Hand "check_ask" a.Hand_check_ask
 f_Hand_ask:Fun K "ask" "Hand.ask" s_Hand_ask a.Hand_ask d.Hand_ask
 b_Hand_ask:Binds K d.Hand_ask ["self","worth"] []
 mt_Hand_ask:Meth K a.Hand "ask" a.Hand_ask
 f_Hand_collect:Fun K "collect" "Hand.collect" s_Hand_collect a.Hand_collect d.Hand_collect
 b_Hand_collect:Binds K d.Hand_collect ["self"] []
 mt_Hand_collect:Meth K a.Hand "collect" a.Hand_collect
 f_Hand_under_way:Fun K "under_way" "Hand.under_way" s_Hand_under_way a.Hand_under_way d.Hand_under_way
 b_Hand_under_way:Binds K d.Hand_under_way ["self"] []
 mt_Hand_under_way:Meth K a.Hand "under_way" a.Hand_under_way
 f_Hand_something_waits:Fun K "something_waits" "Hand.something_waits" s_Hand_something_waits a.Hand_something_waits d.Hand_something_waits
 b_Hand_something_waits:Binds K d.Hand_something_waits ["self"] []
 mt_Hand_something_waits:Meth K a.Hand "something_waits" a.Hand_something_waits
 f_Heart__init:Fun K "__init__" "Heart.__init__" s_Heart__init a.Heart__init d.Heart__init
 b_Heart__init:Binds K d.Heart__init ["self","store","size","rounds","faults"] []
 f_Heart_become:Fun K "become" "Heart.become" s_Heart_become a.Heart_become d.Heart_become
 b_Heart_become:Binds K d.Heart_become ["self","one"] []
 mt_Heart_become:Meth K a.Heart "become" a.Heart_become
 f_Heart_take:Fun K "take" "Heart.take" s_Heart_take a.Heart_take d.Heart_take
 b_Heart_take:Binds K d.Heart_take ["self"] []
 mt_Heart_take:Meth K a.Heart "take" a.Heart_take
 f_Heart_check_answer:Fun K "check_answer" "Heart.check_answer" s_Heart_check_answer a.Heart_check_answer d.Heart_check_answer
 b_Heart_check_answer:Binds K d.Heart_check_answer ["self","name"] []
 mt_Heart_check_answer:Meth K a.Heart "check_answer" a.Heart_check_answer
 f_Heart_answer:Fun K "answer" "Heart.answer" s_Heart_answer a.Heart_answer d.Heart_answer
 b_Heart_answer:Binds K d.Heart_answer ["self","name","worth"] []
 mt_Heart_answer:Meth K a.Heart "answer" a.Heart_answer
 f_Heart_tasks:Fun K "tasks" "Heart.tasks" s_Heart_tasks a.Heart_tasks d.Heart_tasks
 b_Heart_tasks:Binds K d.Heart_tasks ["self"] []
 mt_Heart_tasks:Meth K a.Heart "tasks" a.Heart_tasks
 f_Heart_something_waits:Fun K "something_waits" "Heart.something_waits" s_Heart_something_waits a.Heart_something_waits d.Heart_something_waits
 b_Heart_something_waits:Binds K d.Heart_something_waits ["self"] []
 mt_Heart_something_waits:Meth K a.Heart "something_waits" a.Heart_something_waits
 f_Store__init:Fun K "__init__" "Store.__init__" s_Store__init a.Store__init d.Store__init
 b_Store__init:Binds K d.Store__init ["self"] []
 f_Store_become:Fun K "become" "Store.become" s_Store_become a.Store_become d.Store_become
 b_Store_become:Binds K d.Store_become ["self","one"] []
 mt_Store_become:Meth K a.Store "become" a.Store_become
 f_Store_write:Fun K "write" "Store.write" s_Store_write a.Store_write d.Store_write
 b_Store_write:Binds K d.Store_write ["self","side","cell","worth"] []
 mt_Store_write:Meth K a.Store "write" a.Store_write
 f_Store_drain:Fun K "drain" "Store.drain" s_Store_drain a.Store_drain d.Store_drain
 b_Store_drain:Binds K d.Store_drain ["self","side"] []
 mt_Store_drain:Meth K a.Store "drain" a.Store_drain
 f_Store_fence:Fun K "fence" "Store.fence" s_Store_fence a.Store_fence d.Store_fence
 b_Store_fence:Binds K d.Store_fence ["self","side"] []
 mt_Store_fence:Meth K a.Store "fence" a.Store_fence
 f_Store_read:Fun K "read" "Store.read" s_Store_read a.Store_read d.Store_read
 b_Store_read:Binds K d.Store_read ["self","side","cell"] []
 mt_Store_read:Meth K a.Store "read" a.Store_read
 f_Store_memory:Fun K "memory" "Store.memory" s_Store_memory a.Store_memory d.Store_memory
 b_Store_memory:Binds K d.Store_memory ["self","cell"] []
 mt_Store_memory:Meth K a.Store "memory" a.Store_memory
 f_Store_waits:Fun K "waits" "Store.waits" s_Store_waits a.Store_waits d.Store_waits
 b_Store_waits:Binds K d.Store_waits ["self","side"] []
 mt_Store_waits:Meth K a.Store "waits" a.Store_waits
 f_Store_cells:Fun K "cells" "Store.cells" s_Store_cells a.Store_cells d.Store_cells
 b_Store_cells:Binds K d.Store_cells ["self"] []
 mt_Store_cells:Meth K a.Store "cells" a.Store_cells
 f_law_well:Fun K "_law_well" "_law_well" s_law_well a.law_well d.law_well
 b_law_well:Binds K d.law_well ["cell"] []
 m_law_well:mg "_law_well"=some (.ref a.law_well)
 f_law_draw:Fun K "_law_draw" "_law_draw" s_law_draw a.law_draw d.law_draw
 b_law_draw:Binds K d.law_draw ["well","many"] []
 m_law_draw:mg "_law_draw"=some (.ref a.law_draw)
 f_law_same:Fun K "_law_same" "_law_same" s_law_same a.law_same d.law_same
 b_law_same:Binds K d.law_same ["got","due"] []
 m_law_same:mg "_law_same"=some (.ref a.law_same)
 f_law_worth:Fun K "_law_worth" "_law_worth" s_law_worth a.law_worth d.law_worth
 b_law_worth:Binds K d.law_worth ["well"] []
 m_law_worth:mg "_law_worth"=some (.ref a.law_worth)
 f_law_size:Fun K "_law_size" "_law_size" s_law_size a.law_size d.law_size
 b_law_size:Binds K d.law_size ["well"] []
 m_law_size:mg "_law_size"=some (.ref a.law_size)
 f_law_names:Fun K "_law_names" "_law_names" s_law_names a.law_names d.law_names
 b_law_names:Binds K d.law_names ["well"] []
 m_law_names:mg "_law_names"=some (.ref a.law_names)
 f_law_kind:Fun K "_law_kind" "_law_kind" s_law_kind a.law_kind d.law_kind
 b_law_kind:Binds K d.law_kind ["error"] []
 m_law_kind:mg "_law_kind"=some (.ref a.law_kind)
 f_law_asked:Fun K "_law_asked" "_law_asked" s_law_asked a.law_asked d.law_asked
 b_law_asked:Binds K d.law_asked ["hand","worth"] []
 m_law_asked:mg "_law_asked"=some (.ref a.law_asked)
 f_law_answered:Fun K "_law_answered" "_law_answered" s_law_answered a.law_answered d.law_answered
 b_law_answered:Binds K d.law_answered ["heart","name","worth"] []
 m_law_answered:mg "_law_answered"=some (.ref a.law_answered)
 f_law_seen:Fun K "_law_seen" "_law_seen" s_law_seen a.law_seen d.law_seen
 b_law_seen:Binds K d.law_seen ["store","hand","heart"] []
 m_law_seen:mg "_law_seen"=some (.ref a.law_seen)
 f_law_refused:Fun K "_law_refused" "_law_refused" s_law_refused a.law_refused d.law_refused
 b_law_refused:Binds K d.law_refused ["well","store","hand","heart","due"] []
 m_law_refused:mg "_law_refused"=some (.ref a.law_refused)
 f_law_all_asked:Fun K "_law_all_asked" "_law_all_asked" s_law_all_asked a.law_all_asked d.law_all_asked
 b_law_all_asked:Binds K d.law_all_asked ["well","store","hand","heart","size","names"] []
 m_law_all_asked:mg "_law_all_asked"=some (.ref a.law_all_asked)
 f_law_asked_again:Fun K "_law_asked_again" "_law_asked_again" s_law_asked_again a.law_asked_again d.law_asked_again
 b_law_asked_again:Binds K d.law_asked_again ["well","store","hand","heart","size","names"] []
 m_law_asked_again:mg "_law_asked_again"=some (.ref a.law_asked_again)
 f_law_answered_all:Fun K "_law_answered_all" "_law_answered_all" s_law_answered_all a.law_answered_all d.law_answered_all
 b_law_answered_all:Binds K d.law_answered_all ["well","store","hand","heart","size","names"] []
 m_law_answered_all:mg "_law_answered_all"=some (.ref a.law_answered_all)
 f_law:Fun K "law" "law" s_law a.law d.law
 b_law:Binds K d.law ["script"] []
 m_law:mg "law"=some (.ref a.law)
 cl_Ring:Cls K a.Ring
 m_Ring:mg "Ring"=some (.ref a.Ring)
 k_Ring:Mk K a.Ring a.Ring__init
 na_Ring_shelf:NoAttr K a.Ring "shelf"
 na_Ring_side:NoAttr K a.Ring "side"
 na_Ring_word:NoAttr K a.Ring "word"
 na_Ring_laid:NoAttr K a.Ring "laid"
 na_Ring_fetched:NoAttr K a.Ring "fetched"
 na_Ring_size:NoAttr K a.Ring "size"
 na_Ring_rounds:NoAttr K a.Ring "rounds"
 na_Ring_counter_first:NoAttr K a.Ring "counter_first"
 cl_Hand:Cls K a.Hand
 m_Hand:mg "Hand"=some (.ref a.Hand)
 k_Hand:Mk K a.Hand a.Hand__init
 na_Hand_asks:NoAttr K a.Hand "asks"
 na_Hand_answers:NoAttr K a.Hand "answers"
 na_Hand_names:NoAttr K a.Hand "names"
 na_Hand_going:NoAttr K a.Hand "going"
 cl_Heart:Cls K a.Heart
 m_Heart:mg "Heart"=some (.ref a.Heart)
 k_Heart:Mk K a.Heart a.Heart__init
 na_Heart_asks:NoAttr K a.Heart "asks"
 na_Heart_answers:NoAttr K a.Heart "answers"
 na_Heart_doing:NoAttr K a.Heart "doing"
 cl_Store:Cls K a.Store
 m_Store:mg "Store"=some (.ref a.Store)
 k_Store:Mk K a.Store a.Store__init
 na_Store_held:NoAttr K a.Store "held"
 na_Store_rows:NoAttr K a.Store "rows"
 n_ValueError:mg "ValueError"=none
 n_bool:mg "bool"=none
 n_int:mg "int"=none
 n_isinstance:mg "isinstance"=none
 n_len:mg "len"=none
 n_list:mg "list"=none
 n_min:mg "min"=none
 n_range:mg "range"=none
 n_reversed:mg "reversed"=none
 n_sorted:mg "sorted"=none
 n_str:mg "str"=none
 n_tuple:mg "tuple"=none
 n_zip:mg "zip"=none
 m_RingError:mg "RingError"=some (.ref a.RingError)
 m_Full:mg "Full"=some (.ref a.Full)
 m_NoName:mg "NoName"=some (.ref a.NoName)
 m_NoTask:mg "NoTask"=some (.ref a.NoTask)
 m_NoDeed:mg "NoDeed"=some (.ref a.NoDeed)
 m_NoRow:mg "NoRow"=some (.ref a.NoRow)
 m_ASKS:mg "ASKS"=some (.ref a.T_ASKS)
 t_ASKS:∀ H,SqT K H a.T_ASKS [.str "ask",.str "asked",.str "taken"]
 m_ANSWERS:mg "ANSWERS"=some (.ref a.T_ANSWERS)
 t_ANSWERS:∀ H,SqT K H a.T_ANSWERS [.str "answer",.str "answered",.str "handed"]
 xc_Full:PySem.W.excIn K a.Full veB "ValueError.__new__"=true
 xc_NoName:PySem.W.excIn K a.NoName veB "ValueError.__new__"=true
 xc_NoTask:PySem.W.excIn K a.NoTask veB "ValueError.__new__"=true
 xk_Full:PySem.W.XCls K a.Full
 xk_NoName:PySem.W.XCls K a.NoName
 xk_NoTask:PySem.W.XCls K a.NoTask
 em_f:PySem.W.exmOne K (.ref a.Full) (.ref a.RingError)=some true
 ki_f_Full:PySem.W.kitOne K (.ref a.Full) (.ref a.Full)=some true
 ki_f_NoName:PySem.W.kitOne K (.ref a.Full) (.ref a.NoName)=some false
 ki_f_NoTask:PySem.W.kitOne K (.ref a.Full) (.ref a.NoTask)=some false
 ki_f_NoDeed:PySem.W.kitOne K (.ref a.Full) (.ref a.NoDeed)=some false
 ki_f_NoRow:PySem.W.kitOne K (.ref a.Full) (.ref a.NoRow)=some false
 ki_f_ValueError:PySem.W.kitOne K (.ref a.Full) (.type "ValueError")=some true
 em_n:PySem.W.exmOne K (.ref a.NoName) (.ref a.RingError)=some true
 ki_n_Full:PySem.W.kitOne K (.ref a.NoName) (.ref a.Full)=some false
 ki_n_NoName:PySem.W.kitOne K (.ref a.NoName) (.ref a.NoName)=some true
 ki_n_NoTask:PySem.W.kitOne K (.ref a.NoName) (.ref a.NoTask)=some false
 ki_n_NoDeed:PySem.W.kitOne K (.ref a.NoName) (.ref a.NoDeed)=some false
 ki_n_NoRow:PySem.W.kitOne K (.ref a.NoName) (.ref a.NoRow)=some false
 ki_n_ValueError:PySem.W.kitOne K (.ref a.NoName) (.type "ValueError")=some true
 em_t:PySem.W.exmOne K (.ref a.NoTask) (.ref a.RingError)=some true
 ki_t_Full:PySem.W.kitOne K (.ref a.NoTask) (.ref a.Full)=some false
 ki_t_NoName:PySem.W.kitOne K (.ref a.NoTask) (.ref a.NoName)=some false
 ki_t_NoTask:PySem.W.kitOne K (.ref a.NoTask) (.ref a.NoTask)=some true
 ki_t_NoDeed:PySem.W.kitOne K (.ref a.NoTask) (.ref a.NoDeed)=some false
 ki_t_NoRow:PySem.W.kitOne K (.ref a.NoTask) (.ref a.NoRow)=some false
 ki_t_ValueError:PySem.W.kitOne K (.ref a.NoTask) (.type "ValueError")=some true
def sp_init (w:World) (C:Addr):Sp:=λvs H Q _=>∃ x dx,vs=[.ref x]/\H x=some (.ins C dx []) /\
 ∀ (hd rl:Addr) (l:Bool->Addr) (H':Hp),H hd=none->H rl=none->(∀ b,H (l b)=none)->Sto w C H' x hd rl l [] (λ_=>[])->Kp [x] H H'->Q .non H'
def sp_write (w:World) (C:Addr):Sp:=λvs H Q _=>∃ (x hd rl:Addr) (l:Bool->Addr) (M:List (PyData × V)) (r:Bool->List (PyData × V)) (b:Bool) (cv wv:V) (k:PyData),vs=[.ref x,.int (sdI b),cv,wv]/\Sto w C H x hd rl l M r/\(r b).length < 100000/\KeyV H k cv /\
 ∀ H',Sto w C H' x hd rl l M (setR r b (r b++[(k,wv)]))->Kp [l b] H H'->Q .non H'
def sp_drain (w:World) (C:Addr):Sp:=λvs H Q _=>∃ (x hd rl:Addr) (l:Bool->Addr) (M:List (PyData × V)) (r:Bool->List (PyData × V)) (b:Bool) (k:PyData) (v:V) (rest:List (PyData × V)),vs=[.ref x,.int (sdI b)]/\Sto w C H x hd rl l M r/\r b=(k,v) :: rest/\M.length < 100000 /\
 ∀ H',Sto w C H' x hd rl l (putD M k v) (setR r b rest)->Kp [l b,hd] H H'->Q .non H'
def sp_fence (w:World) (C:Addr):Sp:=λvs H Q _=>∃ (x hd rl:Addr) (l:Bool->Addr) (M:List (PyData × V)) (r:Bool->List (PyData × V)) (b:Bool),vs=[.ref x,.int (sdI b)]/\Sto w C H x hd rl l M r/\M.length+(r b).length < 100000 /\
 ∀ H',Sto w C H' x hd rl l (drainAll M (r b)) (setR r b [])->Kp [l b,hd] H H'->Q .non H'
def sp_read (w:World) (C:Addr):Sp:=λvs H Q _=>∃ (x hd rl:Addr) (l:Bool->Addr) (M:List (PyData × V)) (r:Bool->List (PyData × V)) (b:Bool) (cv:V) (k:PyData),vs=[.ref x,.int (sdI b),cv]/\Sto w C H x hd rl l M r/\KeyV H k cv/\Q (readV M (r b) k) H
def sp_memory (w:World) (C:Addr):Sp:=λvs H Q _=>∃ (x hd rl:Addr) (l:Bool->Addr) (M:List (PyData × V)) (r:Bool->List (PyData × V)) (cv:V) (k:PyData),vs=[.ref x,cv]/\Sto w C H x hd rl l M r/\KeyV H k cv/\Q ((lookD M k).getD (.int 0)) H
def sp_waits (w:World) (C:Addr):Sp:=λvs H Q _=>∃ (x hd rl:Addr) (l:Bool->Addr) (M:List (PyData × V)) (r:Bool->List (PyData × V)) (b:Bool),vs=[.ref x,.int (sdI b)]/\Sto w C H x hd rl l M r /\
 ∀ (p:Addr) (ts:List V),H p=none->Paired (Wt H) (r b) ts->Q (.ref p) (upd H p (.lst ts))
theorem many:100000 <= sizeLine:=by decide
theorem l2 {x y:V}:[x,y].length <= sizeLine:=by show 2 <= sizeLine;decide
section
variable {P:Program} {w:World} {K:PySem.W.Frag} {mg:Str->Option Value} {base:Heap} {a:Ad} {d:Fd}
theorem ok_init (G:Gs K mg a d):FnOk P w K mg base CX0 1 a.Store__init d.Store__init ["self"] (sp_init w a.Store):=by
 refine G.f_Store__init.ok sc_Store__init (λvs H Q E h=>?_) (λcdv A outer s H vs Q E hr h=>?_)
 · obtain ⟨x,dx,rfl,_⟩:=h
   rfl
 · obtain ⟨x,dx,rfl,hx,k⟩:=h
   refine ⟨_,(@pss_cons _ _ _ _ _ (ps_fld (pv 0) pe_mnew rfl)
     (@pss_one _ _ _ (ps_fld (pv 0) (@pe_lst _ _ _ _ (@pa_cons _ _ _ _ _ (@pe_lst _ _ _ _ pa_nil) (@pa_cons _ _ _ _ _ (@pe_lst _ _ _ _ pa_nil) pa_nil (by rfl)) (by rfl))) rfl))),?_⟩
   intro hd hhd
   have n0:x≠hd:=ne_of_none hx hhd
   refine ⟨_,rfl,x,a.Store,dx,[],rfl,(by rw [upd_ne n0];exact hx),G.cl_Store,G.na_Store_held,(by show 0 < 1000;decide),?_⟩
   refine ⟨by show 0 <= sizeLine;decide,λl0 h0=>⟨by show 0 <= sizeLine;decide,λl1 h1=>⟨l2,λrl hrl=>⟨_,rfl,x,a.Store,dx,putF "held" (.ref hd) [],rfl,?_,G.cl_Store,G.na_Store_rows,by show 1 < 1000;decide,?_⟩⟩⟩⟩
   all_goals
     have m0:x≠l0:=ne_of_none upd_same h0
     have m1:x≠l1:=ne_of_none (o:=.ins a.Store dx (putF "held" (.ref hd) [])) (by rw [upd_ne m0];exact upd_same) h1
     have m2:x≠rl:=ne_of_none (o:=.ins a.Store dx (putF "held" (.ref hd) [])) (by rw [upd_ne m1,upd_ne m0];exact upd_same) hrl
   · rw [upd_ne m2,upd_ne m1,upd_ne m0];exact upd_same
   · have q0:hd≠l0:=ne_of_none (o:=DObj hd [] 0) (by rw [upd_ne n0.symm];exact upd_same) h0
     have q1:hd≠l1:=ne_of_none (o:=DObj hd [] 0) (by rw [upd_ne q0,upd_ne n0.symm];exact upd_same) h1
     have q2:hd≠rl:=ne_of_none (o:=DObj hd [] 0) (by rw [upd_ne q1,upd_ne q0,upd_ne n0.symm];exact upd_same) hrl
     have r1:l0≠l1:=ne_of_none upd_same h1
     have r2:l0≠rl:=ne_of_none (o:=.lst []) (by rw [upd_ne r1];exact upd_same) hrl
     have r3:l1≠rl:=ne_of_none upd_same hrl
     have e0:∀ c o,H c=some o->c≠hd:=λc o e=>ne_of_none e hhd
     have f0:H l0=none:=by
       cases z:H l0 with
       | none=>rfl
       | some o=>rw [upd_ne m0.symm,upd_ne q0.symm,z] at h0;cases h0
     have f1:H l1=none:=by
       cases z:H l1 with
       | none=>rfl
       | some o=>rw [upd_ne r1.symm,upd_ne m1.symm,upd_ne q1.symm,z] at h1;cases h1
     have f2:H rl=none:=by
       cases z:H rl with
       | none=>rfl
       | some o=>rw [upd_ne r3.symm,upd_ne r2.symm,upd_ne m2.symm,upd_ne q2.symm,z] at hrl;cases hrl
     refine k hd rl (λb=>if b then l1 else l0) _ hhd f2 (λb=>by cases b;exact f0;exact f1) ⟨⟨dx,upd_same⟩,⟨[],0,by rw [upd_ne n0.symm,upd_ne q2,upd_ne q1,upd_ne q0,upd_ne n0.symm,upd_same],.nil,List.nodup_nil,Nat.zero_le _⟩,by rw [upd_ne m2.symm,upd_same];rfl,λb=>⟨[],?_,.nil⟩,r1,λb=>by cases b;exact r2;exact r3⟩ λc o n e=>?_
     · cases b
       · show upd _ x _ l0=_
         rw [upd_ne m0.symm,upd_ne r2,upd_ne r1,upd_same]
       · show upd _ x _ l1=_
         rw [upd_ne m1.symm,upd_ne r3,upd_same]
     · have c0:c≠x:=λz=>n (List.mem_singleton.mpr z)
       rw [upd_ne c0,upd_ne (ne_of_none e f2),upd_ne (ne_of_none e f1),upd_ne (ne_of_none e f0),upd_ne c0,upd_ne (e0 c o e)]
       exact e
theorem ok_write (G:Gs K mg a d):FnOk P w K mg base CX0 1 a.Store_write d.Store_write ["self","side","cell","worth"] (sp_write w a.Store):=by
 refine G.f_Store_write.ok sc_Store_write (λvs H Q E h=>?_) (λcdv A outer s H vs Q E hr h=>?_)
 · obtain ⟨x,hd,rl,l,M,r,b,cv,wv,k,rfl,_⟩:=h
   rfl
 · obtain ⟨x,hd,rl,l,M,r,b,cv,wv,k,rfl,S,hlen,hk,q⟩:=h
   refine ⟨_,(@pss_one _ _ _ (@ps_expr _ _ _ _ (@pe_bm _ _ _ _ _ _ _ _ _ _ _ _ PySem.F.plainAttrs_list PySem.F.slot_list_append PySem.F.type_list_append mt_append (@pe_ix _ _ _ _ _ _ _ ix_list (pe_fld (pv 0) rfl) (pv 1) (λ_ _=>rfl)) (@pa_cons _ _ _ _ _ (@pe_tup _ _ _ _ _ (@pa_cons _ _ _ _ _ (pv 2) (@pa_cons _ _ _ _ _ (pv 3) pa_nil (by rfl)) (by rfl))) pa_nil (by rfl)) (by rfl) (by rfl) (by rfl) (by rfl) (by rfl)) (by rfl))),?_⟩
   obtain ⟨dx,hx⟩:=S.ob
   obtain ⟨ts,hl,hp⟩:=S.rw b
   have hn:=pairedLen hp
   refine ⟨_,rfl,x,a.Store,dx,_,_,rfl,hx,G.cl_Store,G.na_Store_rows,stF_rows,_,rfl,rl,_,_,_,rfl,rfl,SqL.of S.ro,sdI_at b,.inl ⟨rfl,_,SqL.of hl⟩,_,rfl,_,rfl,l2,λt ht=>⟨l b,ts,.ref t,rfl,rfl,by rw [upd_ne (ne_of_none hl ht)];exact hl,Nat.lt_of_lt_of_le (by omega) many,?_⟩⟩
   have tne:∀ c o,H c=some o->c≠t:=λc o e=>ne_of_none e ht
   have tl:t≠l b:=(tne _ _ hl).symm
   have kp:Kp [l b] H (upd (upd H t (.tup [cv,wv])) (l b) (.lst (ts++[.ref t]))):=λc o n e=>by
     rw [upd_ne λz=>n (List.mem_singleton.mpr z),upd_ne (tne c o e)];exact e
   have kt:∀ c vs,H c=some (.tup vs)->upd (upd H t (.tup [cv,wv])) (l b) (.lst (ts++[.ref t])) c=some (.tup vs):=λc vs e=>kp c _ (λz=>by
     rw [List.mem_singleton.mp z,hl] at e;cases e) e
   refine q _ ⟨⟨dx,kp _ _ (λz=>by rw [List.mem_singleton.mp z,hl] at hx;cases hx) hx⟩,S.me.keepS (λo e=>kp _ _ (λz=>by
     obtain ⟨es,e'⟩:=S.me.there
     rw [List.mem_singleton.mp z,hl] at e';cases e') e) kt,kp _ _ (λz=>S.nr b (List.mem_singleton.mp z).symm) S.ro,λc=>?_,S.nl,S.nr⟩ kp
   by_cases z:c=b
   · subst z
     rw [setR_same]
     exact ⟨_,upd_same,Paired.snoc (Paired.mapP hp λ_ _ q=>q.keep kt) ⟨t,cv,rfl,by rw [upd_ne tl];exact upd_same,hk.keep kt⟩⟩
   · rw [setR_ne z]
     exact (S.rw c).keep (λo e=>kp _ _ (λy=>by
       have y':=List.mem_singleton.mp y
       cases c<;>cases b
       · exact z rfl
       · exact S.nl y'
       · exact S.nl y'.symm
       · exact z rfl) e) kt
theorem ok_drain (G:Gs K mg a d):FnOk P w K mg base CX0 1 a.Store_drain d.Store_drain ["self","side"] (sp_drain w a.Store):=by
 refine G.f_Store_drain.ok sc_Store_drain (λvs H Q E h=>?_) (λcdv A outer s H vs Q E hr h=>?_)
 · obtain ⟨x,hd,rl,l,M,r,b,k,v,rest,rfl,_⟩:=h
   rfl
 · obtain ⟨x,hd,rl,l,M,r,b,k,v,rest,rfl,S,hrow,hlen,q⟩:=h
   refine ⟨_,(@pss_cons _ _ _ _ _ (ps_if (pt_not (pt_truth (@pe_ix _ _ _ _ _ _ _ ix_list (pe_fld (pv 0) rfl) (pv 1) (λ_ _=>rfl)) (λ_=>rfl))) (@pss_one _ _ _ ps_never) pss_nil)
     (@pss_cons _ _ _ _ _ (@ps_set _ _ 2 _ _ _ _ sc_Store_drain.nd rfl (Or.inl rfl) (@pe_bm _ _ _ _ _ _ _ _ _ _ _ _ PySem.F.plainAttrs_list PySem.F.slot_list_pop PySem.F.type_list_pop mt_popAt (@pe_ix _ _ _ _ _ _ _ ix_list (pe_fld (pv 0) rfl) (pv 1) (λ_ _=>rfl)) (@pa_cons _ _ _ _ _ pe_int pa_nil (by rfl)) (by rfl) (by rfl) (by rfl) (by rfl) (by rfl)) (by rfl) (by first | exact .inl rfl | exact .inr rfl | assumption))
     (@pss_one _ _ _ (ps_mput hr.units (pe_fld (pv 0) rfl) (@pe_ix _ _ _ _ _ _ _ ix_tup (pv 2) pe_int (λ_ _=>rfl)) (@pe_ix _ _ _ _ _ _ _ ix_tup (pv 2) pe_int (λ_ _=>rfl)) rfl)))),?_⟩
   obtain ⟨dx,hx⟩:=S.ob
   obtain ⟨ts0,hl,hp0⟩:=S.rw b
   rw [hrow] at hp0
   cases hp0 with
   | @cons _ tv _ ts hw hp =>
     obtain ⟨t,cv,rfl,ht,hk⟩:=hw
     refine ⟨_,rfl,x,a.Store,dx,_,_,rfl,hx,G.cl_Store,G.na_Store_rows,stF_rows,_,rfl,rl,_,_,_,rfl,rfl,SqL.of S.ro,sdI_at b,true,.inl ⟨_,SqL.of hl,rfl⟩,iteF ?_⟩
     refine ⟨_,rfl,x,a.Store,dx,_,_,rfl,hx,G.cl_Store,G.na_Store_rows,stF_rows,_,rfl,rl,_,_,_,rfl,rfl,SqL.of S.ro,sdI_at b,.inl ⟨rfl,_,SqL.of hl⟩,l b,_,0,0,.ref t,rfl,rfl,hl,by decide,by decide,by simp [seqIndex?],rfl,?_⟩
     have tl:t≠l b:=ne_of ht hl (by intro z;cases z)
     have kp:Kp [l b] H (upd H (l b) (.lst (List.eraseIdx (.ref t :: ts) 0))):=λc o n e=>by
       rw [upd_ne λz=>n (List.mem_singleton.mpr z)];exact e
     have kt:∀ c vs,H c=some (.tup vs)->upd H (l b) (.lst (List.eraseIdx (.ref t :: ts) 0)) c=some (.tup vs):=λc vs e=>kp c _ (λz=>by
       rw [List.mem_singleton.mp z,hl] at e;cases e) e
     have hx':=kp x _ (λz=>by rw [List.mem_singleton.mp z,hl] at hx;cases hx) hx
     have me':=S.me.keepS (λo e=>kp _ _ (λz=>by
       obtain ⟨es,e'⟩:=S.me.there
       rw [List.mem_singleton.mp z,hl] at e';cases e') e) kt
     have ro':=kp rl _ (λz=>S.nr b (List.mem_singleton.mp z).symm) S.ro
     have ht':=kt t _ ht
     have rw':∀ c,RowAt (upd H (l b) (.lst (List.eraseIdx (.ref t :: ts) 0))) (l c) (setR r b rest c):=λc=>by
       by_cases z:c=b
       · subst z
         rw [setR_same]
         exact ⟨ts,upd_same,Paired.mapP hp λ_ _ q=>q.keep kt⟩
       · rw [setR_ne z]
         exact (S.rw c).keep (λo e=>kp _ _ (λy=>by
           have y':=List.mem_singleton.mp y
           cases c<;>cases b
           · exact z rfl
           · exact S.nl y'
           · exact S.nl y'.symm
           · exact z rfl) e) kt
     have hk':=hk.keep kt
     refine ⟨_,rfl,t,_,_,_,rfl,rfl,SqT.of ht',rfl,_,rfl,x,a.Store,dx,_,_,rfl,hx',G.cl_Store,G.na_Store_held,stF_held,_,rfl,t,_,_,_,rfl,rfl,SqT.of ht',rfl,hd,M,k,rfl,me',Nat.lt_of_lt_of_le hlen many,hk',λH4 g1 g2=>?_⟩
     generalize upd H (l b) (.lst (List.eraseIdx (.ref t :: ts) 0))=H1 at kp kt hx' me' ro' ht' rw' hk' g1 ⊢
     have hdn:∀ c o,H1 c=some o->(∀ ee:List DictEntry × Nat,o≠DObj hd ee.1 ee.2)->c≠hd:=λc o e n z=>by
       obtain ⟨es,e'⟩:=me'.there
       rw [z,e'] at e;exact n es (Option.some.inj e).symm
     have k4:∀ c o,c≠hd->H1 c=some o->H4 c=some o:=λc o n e=>by rw [g1 c n];exact e
     have kt4:∀ c vs,H1 c=some (.tup vs)->H4 c=some (.tup vs):=λc vs e=>k4 c _ (hdn c _ e λes z=>by cases z) e
     refine q H4 ⟨⟨dx,k4 _ _ (hdn _ _ hx' λes z=>by cases z) hx'⟩,g2,k4 _ _ (hdn _ _ ro' λes z=>by cases z) ro',λc=>(rw' c).keep (λo e=>k4 _ _ (by
       obtain ⟨ts',e',_⟩:=rw' c
       exact hdn _ _ e' λes z=>by cases z) e) kt4,S.nl,S.nr⟩ λc o n e=>?_
     exact k4 c o (λz=>n (by rw [z];simp)) (kp c o (λz=>n (by rw [List.mem_singleton.mp z];simp)) e)
theorem ok_memory (G:Gs K mg a d):FnOk P w K mg base CX0 1 a.Store_memory d.Store_memory ["self","cell"] (sp_memory w a.Store):=by
 refine G.f_Store_memory.ok sc_Store_memory (λvs H Q E h=>?_) (λcdv A outer s H vs Q E hr h=>?_)
 · obtain ⟨x,hd,rl,l,M,r,cv,k,rfl,_⟩:=h
   rfl
 · obtain ⟨x,hd,rl,l,M,r,cv,k,rfl,S,hk,q⟩:=h
   refine ⟨_,(@pss_one _ _ _ (@ps_ret _ _ _ _ (pe_mget2 hr.units (pe_fld (pv 0) rfl) (pv 1) pe_int ⟨rfl,rfl,rfl,rfl⟩))),?_⟩
   obtain ⟨dx,hx⟩:=S.ob
   exact ⟨_,rfl,x,a.Store,dx,_,_,rfl,hx,G.cl_Store,G.na_Store_held,stF_held,hd,rfl,⟨_,S.me⟩,_,rfl,M,k,S.me,hk,q⟩
theorem ok_waits (G:Gs K mg a d):FnOk P w K mg base CX0 1 a.Store_waits d.Store_waits ["self","side"] (sp_waits w a.Store):=by
 refine G.f_Store_waits.ok sc_Store_waits (λvs H Q E h=>?_) (λcdv A outer s H vs Q E hr h=>?_)
 · obtain ⟨x,hd,rl,l,M,r,b,rfl,_⟩:=h
   rfl
 · obtain ⟨x,hd,rl,l,M,r,b,rfl,S,q⟩:=h
   refine ⟨_,(@pss_one _ _ _ (@ps_ret _ _ _ _ (pe_callTy call_list_of (by rfl) G.n_list bt_list (@pa_cons _ _ _ _ _ (@pe_ix _ _ _ _ _ _ _ ix_list (pe_fld (pv 0) rfl) (pv 1) (λ_ _=>rfl)) pa_nil (by rfl))))),?_⟩
   obtain ⟨dx,hx⟩:=S.ob
   obtain ⟨ts,hl,hp⟩:=S.rw b
   exact ⟨_,rfl,x,a.Store,dx,_,_,rfl,hx,G.cl_Store,G.na_Store_rows,stF_rows,_,rfl,rl,_,_,_,rfl,rfl,SqL.of S.ro,sdI_at b,l b,ts,rfl,.inl (SqL.of hl),λp hp'=>q p ts hp' hp⟩
theorem ok_fence (G:Gs K mg a d):FnOk P w K mg base CX0 2 a.Store_fence d.Store_fence ["self","side"] (sp_fence w a.Store):=by
 have c_Store_drain:FnOk P w K mg base CX0 1 _ _ _ _:=ok_drain G
 refine G.f_Store_fence.ok sc_Store_fence (λvs H Q E h=>?_) (λcdv A outer s H vs Q E hr h=>?_)
 · obtain ⟨x,hd,rl,l,M,r,b,rfl,_⟩:=h
   rfl
 · obtain ⟨x,hd,rl,l,M,r,b,rfl,S,hlen,q⟩:=h
   refine ⟨_,(@pss_one _ _ _ (ps_while PassesOwn.never (pt_truth (@pe_ix _ _ _ _ _ _ _ ix_list (pe_fld (pv 0) rfl) (pv 1) (λ_ _=>rfl)) (λ_=>rfl)) (@pss_one _ _ _ (@ps_expr _ _ _ _ (pe_meth (pv 0) G.cl_Store G.mt_Store_drain c_Store_drain (hr.mono (by decide)) G.b_Store_drain .nil pass0 (@pa_cons _ _ _ _ _ (pv 1) pa_nil (by rfl))) (by rfl))))),?_⟩
   refine ⟨λm σ H'=>σ=[some (.ref x),some (.int (sdI b))]/\∃ (M' es:List (PyData × V)),Sto w a.Store H' x hd rl l M' (setR r b es)/\m=es.length/\drainAll M' es=drainAll M (r b)/\M'.length+es.length < 100000/\Kp [l b,hd] H H',
     ⟨_,rfl,M,r b,by rw [show setR r b (r b)=r from funext λc=>by unfold setR;split;(rename_i z;rw [z]);rfl];exact S,rfl,rfl,hlen,Kp.refl _ _⟩,?_⟩
   rintro m σ H' ⟨rfl,M',es,S',rfl,hd',hl',kp⟩
   obtain ⟨dx,hx⟩:=S'.ob
   obtain ⟨ts,hl,hp⟩:=S'.rw b
   rw [setR_same] at hp
   have hn:=pairedLen hp
   refine ⟨_,rfl,x,a.Store,dx,_,_,rfl,hx,G.cl_Store,G.na_Store_rows,stF_rows,_,rfl,rl,_,_,_,rfl,rfl,SqL.of S'.ro,sdI_at b,!ts.isEmpty,.inl ⟨_,SqL.of hl,rfl⟩,?_⟩
   refine ite2 (λht=>?_) (λht=>?_)
   · cases es with
     | nil =>
       cases hp
       cases ht
     | cons p es =>
       refine ⟨_,λσ' H2 z=>z,?_⟩
       refine ⟨_,rfl,x,dx,_,rfl,hx,stF_no (by decide +kernel) (by decide +kernel),_,rfl,x,hd,rl,l,M',_,b,p.1,p.2,es,rfl,S',setR_same,by rw [List.length_cons] at hl';omega,λH2 S2 kp2=>?_⟩
       refine ⟨es.length,by rw [List.length_cons];omega,rfl,putD M' p.1 p.2,es,?_,rfl,hd',by have:=len_putD M' p.1 p.2;rw [List.length_cons] at hl';omega,kp.trans kp2⟩
       rw [show setR (setR r b (p :: es)) b es=setR r b es from funext λc=>by unfold setR;split<;>rfl] at S2
       exact S2
   · cases es with
     | nil =>
       have e:drainAll M' []=M':=rfl
       rw [e] at hd'
       rw [hd'] at S'
       exact q H' S' kp
     | cons p es =>
       cases hp with
       | cons _ _=>exact absurd rfl ht
theorem ok_read (G:Gs K mg a d):FnOk P w K mg base CX0 2 a.Store_read d.Store_read ["self","side","cell"] (sp_read w a.Store):=by
 have c_Store_memory:FnOk P w K mg base CX0 1 _ _ _ _:=ok_memory G
 refine G.f_Store_read.ok sc_Store_read (λvs H Q E h=>?_) (λcdv A outer s H vs Q E hr h=>?_)
 · obtain ⟨x,hd,rl,l,M,r,b,cv,k,rfl,_⟩:=h
   rfl
 · obtain ⟨x,hd,rl,l,M,r,b,cv,k,rfl,S,hk,q⟩:=h
   refine ⟨_,(@pss_cons _ _ _ _ _ (ps_for PassesOwn.never rfl (pi_rev (by rfl) G.n_reversed (@pa_cons _ _ _ _ _ (@pe_ix _ _ _ _ _ _ _ ix_list (pe_fld (pv 0) rfl) (pv 1) (λ_ _=>rfl)) pa_nil (by rfl))) (pg_name (i:=3) sc_Store_read.nd rfl (Or.inl rfl)) (@pss_one _ _ _ (ps_if (pt_cmpR (op_eqD hr.units) (@pe_ix _ _ _ _ _ _ _ ix_tup (pv 3) pe_int (λ_ _=>rfl)) (pv 2) (nomark _)) (@pss_one _ _ _ (@ps_ret _ _ _ _ (@pe_ix _ _ _ _ _ _ _ ix_tup (pv 3) pe_int (λ_ _=>rfl)))) pss_nil)))
     (@pss_one _ _ _ (@ps_ret _ _ _ _ (pe_meth (pv 0) G.cl_Store G.mt_Store_memory c_Store_memory (hr.mono (by decide)) G.b_Store_memory .nil pass0 (@pa_cons _ _ _ _ _ (pv 2) pa_nil (by rfl)))))),?_⟩
   obtain ⟨dx,hx⟩:=S.ob
   obtain ⟨ts,hl,hp⟩:=S.rw b
   have hn:=pairedLen hp
   refine ⟨_,rfl,x,a.Store,dx,_,_,rfl,hx,G.cl_Store,G.na_Store_rows,stF_rows,_,rfl,rl,_,_,_,rfl,rfl,SqL.of S.ro,sdI_at b,l b,ts,rfl,SqL.of hl,?_⟩
   refine for_rev (K:=K) (a:=l b) (xs:=ts) (λi σ H'=>(∃ v,σ=[some (.ref x),some (.int (sdI b)),some cv,v])/\H'=H/\∀ p∈((r b).reverse.take i),PyData.eqv p.1 k=false)
     ⟨⟨_,rfl⟩,rfl,λp hp=>by cases hp⟩ (λ_ _ _ _ z=>by rw [z.2.1];exact SqL.of hl) ?_ ?_
   · rintro i y σ H' hi hy ⟨⟨v,rfl⟩,rfl,hno⟩
     obtain ⟨p,e1,t,tc,rfl,ht,hc⟩:=MX.f2_get hp _ _ hy
     have hrev:(r b).reverse[i]?=some p:=by
       rw [List.getElem?_reverse (by omega)]
       rw [hn];exact e1
     refine ⟨_,rfl,t,_,_,_,rfl,rfl,SqT.of ht,rfl,_,rfl,p.1,k,hc.2.2.1,hk.2.2.1,LayD.key hc.1 hc.2.1,LayD.key hk.1 hk.2.1,_,rfl,?_⟩
     simp only [Bool.false_eq_true,if_false]
     refine ite2 (λhe=>?_) (λhe=>?_)
     · refine ⟨_,rfl,t,_,_,_,rfl,rfl,SqT.of ht,rfl,?_⟩
       have e:readV M (r b) k=p.2:=by
         unfold readV
         have hfind:(r b).reverse.find? (λp=>PyData.eqv p.1 k)=some p:=by
           rw [List.find?_eq_some_iff_getElem]
           refine ⟨he,i,(List.getElem?_eq_some_iff.mp hrev).1,(List.getElem?_eq_some_iff.mp hrev).2,λj hj=>?_⟩
           rw [hno _ (List.mem_of_getElem? (by rw [List.getElem?_take,if_pos hj];exact List.getElem?_eq_getElem _))]
           rfl
         rw [hfind]
       rw [e] at q
       exact q
     · refine ⟨⟨_,rfl⟩,rfl,λp' hp'=>?_⟩
       rw [List.take_succ,hrev] at hp'
       rcases List.mem_append.mp hp' with z | z
       · exact hno p' z
       · rw [show p'=p by simpa using z]
         cases w':PyData.eqv p.1 k with
         | false=>rfl
         | true=>exact absurd w' he
   · rintro σ H' ⟨⟨v,rfl⟩,rfl,hno⟩
     refine ⟨_,rfl,x,dx,_,rfl,hx,stF_no (by decide +kernel) (by decide +kernel),_,rfl,x,hd,rl,l,M,r,cv,k,rfl,S,hk,?_⟩
     have e:readV M (r b) k=(lookD M k).getD (.int 0):=by
       unfold readV
       have hfind:(r b).reverse.find? (λp=>PyData.eqv p.1 k)=none:=by
         rw [List.find?_eq_none]
         intro p hp'
         rw [hno p (by rw [List.take_of_length_le (by rw [List.length_reverse];omega)];exact hp')]
         decide
       rw [hfind]
     rw [e] at q
     exact q
end

def isRow (xs:List V):Prop:=∃ c l:Int,xs=[.int c,.int l]/\0 <= l/\l < 2147483629
def sp_well:Sp:=λvs H Q _=>∃ c:Int,vs=[.int c]/\∀ (p:Addr) (rw:List V),H p=none->isRow rw->Q (.ref p) (upd H p (.lst rw))
def Rw (H:Hp) (r:Addr):Prop:=∃ rw,H r=some (.lst rw)/\isRow rw
structure Stp (r:Addr) (H H':Hp):Prop where
 row:Rw H' r
 keep:∀ b o,b≠r->H b=some o->H' b=some o
theorem Stp.refl {r:Addr} {H:Hp} (h:Rw H r):Stp r H H:=⟨h,λ_ _ _ e=>e⟩
theorem Stp.trans {r:Addr} {H H1 H2:Hp} (a:Stp r H H1) (b:Stp r H1 H2):Stp r H H2:=⟨b.row,λc o n e=>b.keep c o n (a.keep c o n e)⟩
theorem Rw.new {r p:Addr} {H:Hp} {o:HO} (h:Rw H r) (hp:H p=none):Rw (upd H p o) r:=by
 obtain ⟨rw,e,q⟩:=h
 exact ⟨rw,by rw [upd_ne (ne_of_none e hp)];exact e,q⟩
theorem Stp.new {r p:Addr} {H H1:Hp} {o:HO} (a:Stp r H H1) (hp:H1 p=none):Stp r H (upd H1 p o) :=
 ⟨a.row.new hp,λc u n e=>by rw [upd_ne (ne_of_none (a.keep c u n e) hp)];exact a.keep c u n e⟩
theorem Rw.ne {r p:Addr} {H:Hp} (h:Rw H r) (hp:H p=none):p≠r:=by
 obtain ⟨rw,e,_⟩:=h
 exact λz=>by rw [z,e] at hp;cases hp
theorem Stp.tups {r:Addr} {H H':Hp} (S:Stp r H H') (hr:Rw H r):∀ b vs,H b=some (.tup vs)->H' b=some (.tup vs):=λb vs e=>S.keep b _ (λz=>by
 obtain ⟨rw,q,_⟩:=hr
 rw [z,q] at e;cases e) e
def sp_draw:Sp:=λvs H Q _=>∃ (r:Addr) (m:Int),vs=[.ref r,.int m]/\Rw H r/\0 < m/\m < 2 ^ 40 /\
 ∀ (g:Int) (H':Hp),0 <= g->g < m->Stp r H H'->Q (.int g) H'
theorem vint_inj {i j:Int} (h:V.int i=V.int j):i=j:=by injection h
theorem pW:(0:Int) < 2147483629:=by decide
theorem pW1:(0:Int) < 2147483647:=by decide
theorem pW2:(0:Int) < 2147483587:=by decide
section
variable {P:Program} {w:World} {K:PySem.W.Frag} {mg:Str->Option Value} {base:Heap} {a:Ad} {d:Fd}
theorem ok_well (G:Gs K mg a d):FnOk P w K mg base CX0 1 a.law_well d.law_well ["cell"] sp_well:=by
 refine G.f_law_well.ok sc_law_well (λvs H Q E h=>?_) (λcdv A outer s H vs Q E hr h=>?_)
 · obtain ⟨c,rfl,_⟩:=h
   rfl
 · obtain ⟨c,rfl,k⟩:=h
   refine ⟨_,(@pss_cons _ _ _ _ _ (ps_if (pt_cmpR op_ge (pv 0) (@pe_op _ _ _ _ _ _ _ _ op_pow pe_int pe_int) (nomark _)) (@pss_one _ _ _ (@ps_ret _ _ _ _ (@pe_lst _ _ _ _ (@pa_cons _ _ _ _ _ (pv 0) (@pa_cons _ _ _ _ _ (@pe_op _ _ _ _ _ _ _ _ op_mod (pv 0) pe_int) pa_nil (by rfl)) (by rfl))))) pss_nil)
     (@pss_one _ _ _ (@ps_ret _ _ _ _ (@pe_lst _ _ _ _ (@pa_cons _ _ _ _ _ pe_int (@pa_cons _ _ _ _ _ (@pe_op _ _ _ _ _ _ _ _ op_mod (pv 0) pe_int) pa_nil (by rfl)) (by rfl)))))),?_⟩
   refine ⟨_,rfl,_,_,rfl,rfl,⟨by decide,by decide,by decide⟩,_,_,rfl,rfl,_,rfl,?_⟩
   refine ite2 (λ_=>?_) (λ_=>?_)
   · exact ⟨_,rfl,_,rfl,_,_,rfl,rfl,pW,l2,λp hp=>k p _ hp ⟨_,_,rfl,Int.emod_nonneg _ (by decide),Int.emod_lt_of_pos _ pW⟩⟩
   · exact ⟨_,rfl,_,_,rfl,rfl,pW,l2,λp hp=>k p _ hp ⟨_,_,rfl,Int.emod_nonneg _ (by decide),Int.emod_lt_of_pos _ pW⟩⟩
theorem ok_draw (G:Gs K mg a d):FnOk P w K mg base CX0 1 a.law_draw d.law_draw ["well","many"] sp_draw:=by
 refine G.f_law_draw.ok sc_law_draw (λvs H Q E h=>?_) (λcdv A outer s H vs Q E hr h=>?_)
 · obtain ⟨r,m,rfl,_⟩:=h
   rfl
 · obtain ⟨r,m,rfl,⟨rw,hl,c,l,rfl,hl0,hl1⟩,hm0,hm1,k⟩:=h
   have stp:∀ (c' l':Int),0 <= l'->l' < 2147483629->Stp r H (upd H r (.lst [.int c',.int l'])):=λc' l' g0 g1 =>
     ⟨⟨_,upd_same,c',l',rfl,g0,g1⟩,λx o n e=>by rw [upd_ne n];exact e⟩
   refine ⟨_,(@pss_cons _ _ _ _ _ (ps_if (pt_cmpR op_gt (@pe_ix _ _ _ _ _ _ _ ix_list (pv 0) pe_int (λ_ _=>rfl)) pe_int (nomark _)) (@pss_cons _ _ _ _ _ (@ps_set _ _ 2 _ _ _ _ sc_law_draw.nd rfl (Or.inl rfl) (@pe_op _ _ _ _ _ _ _ _ op_mod (@pe_ix _ _ _ _ _ _ _ ix_list (pv 0) pe_int (λ_ _=>rfl)) (pv 1)) (by rfl) (by first | exact .inl rfl | exact .inr rfl | assumption))
     (@pss_cons _ _ _ _ _ (@ps_asg _ _ _ _ _ _ (@pe_op _ _ _ _ _ _ _ _ op_fdivB (@pe_ix _ _ _ _ _ _ _ ix_list (pv 0) pe_int (λ_ _=>rfl)) (pv 1)) (pg_sub (pv 0) pe_int set_list) (by rfl) (by rfl) (by rfl))
     (@pss_one _ _ _ (@ps_ret _ _ _ _ (pv 2))))) pss_nil)
     (@pss_cons _ _ _ _ _ (@ps_set _ _ 3 _ _ _ _ sc_law_draw.nd rfl (Or.inl rfl) (@pe_op _ _ _ _ _ _ _ _ op_mod (@pe_op _ _ _ _ _ _ _ _ op_add (@pe_op _ _ _ _ _ _ _ _ op_mul (@pe_ix _ _ _ _ _ _ _ ix_list (pv 0) pe_int (λ_ _=>rfl)) pe_int) pe_int) pe_int) (by rfl) (by first | exact .inl rfl | exact .inr rfl | assumption))
     (@pss_cons _ _ _ _ _ (@ps_set _ _ 3 _ _ _ _ sc_law_draw.nd rfl (Or.inl rfl) (@pe_op _ _ _ _ _ _ _ _ op_mod (@pe_op _ _ _ _ _ _ _ _ op_mul (pv 3) (pv 3)) pe_int) (by rfl) (by first | exact .inl rfl | exact .inr rfl | assumption))
     (@pss_cons _ _ _ _ _ (@ps_asg _ _ _ _ _ _ (@pe_op _ _ _ _ _ _ _ _ op_mod (@pe_op _ _ _ _ _ _ _ _ op_add (@pe_op _ _ _ _ _ _ _ _ op_mul (pv 3) pe_int) pe_int) pe_int) (pg_sub (pv 0) pe_int set_list) (by rfl) (by rfl) (by rfl))
     (@pss_one _ _ _ (@ps_ret _ _ _ _ (@pe_op _ _ _ _ _ _ _ _ op_mod (@pe_op _ _ _ _ _ _ _ _ op_fdivB (@pe_ix _ _ _ _ _ _ _ ix_list (pv 0) pe_int (λ_ _=>rfl)) pe_int) (pv 1)))))))),?_⟩
   refine ⟨_,rfl,r,_,_,_,rfl,rfl,SqL.of hl,rfl,_,_,rfl,rfl,_,rfl,?_⟩
   refine ite2 (λ_=>?_) (λ_=>?_)
   · refine ⟨_,rfl,r,_,_,_,rfl,rfl,SqL.of hl,rfl,_,rfl,_,_,rfl,rfl,hm0,?_⟩
     refine ⟨_,rfl,r,_,_,_,rfl,rfl,SqL.of hl,rfl,_,rfl,_,_,rfl,rfl,⟨hm0,hm1⟩,_,rfl,r,_,_,_,rfl,rfl,hl,rfl,?_⟩
     exact ⟨_,rfl,k _ _ (Int.emod_nonneg _ (by omega)) (Int.emod_lt_of_pos _ hm0) (stp _ _ hl0 hl1)⟩
   · have a0:=Int.emod_nonneg (l * 48271+11) (show (2147483647:Int)≠0 by decide)
     have a1:=Int.emod_lt_of_pos (l * 48271+11) pW1
     have b0:=Int.emod_nonneg ((l * 48271+11) % 2147483647 * ((l * 48271+11) % 2147483647)) (show (2147483587:Int)≠0 by decide)
     have b1:=Int.emod_lt_of_pos ((l * 48271+11) % 2147483647 * ((l * 48271+11) % 2147483647)) pW2
     have c0:=Int.emod_nonneg ((l * 48271+11) % 2147483647 * ((l * 48271+11) % 2147483647) % 2147483587 * 69621+40692) (show (2147483629:Int)≠0 by decide)
     have c1:=Int.emod_lt_of_pos ((l * 48271+11) % 2147483647 * ((l * 48271+11) % 2147483647) % 2147483587 * 69621+40692) pW
     refine ⟨_,rfl,r,_,_,_,rfl,rfl,SqL.of hl,rfl,_,_,rfl,rfl,cmul_nn hl0 (by omega),_,_,rfl,rfl,_,_,rfl,rfl,pW1,?_⟩
     refine ⟨_,rfl,_,rfl,_,_,rfl,rfl,cmul_nn a0 (Int.lt_trans a1 (by decide)),_,_,rfl,rfl,pW2,?_⟩
     refine ⟨_,rfl,_,_,rfl,rfl,cmul_nn b0 (Int.lt_trans b1 (by decide)),_,_,rfl,rfl,_,_,rfl,rfl,pW,_,rfl,r,_,_,_,rfl,rfl,hl,rfl,?_⟩
     refine ⟨_,rfl,r,_,_,_,rfl,rfl,SqL.of upd_same,rfl,_,_,rfl,rfl,⟨by decide,by decide⟩,_,rfl,_,_,rfl,rfl,hm0,?_⟩
     exact k _ _ (Int.emod_nonneg _ (by omega)) (Int.emod_lt_of_pos _ hm0) (stp _ _ c0 c1)
end
def sp_num (lo hi:Int):Sp:=λvs H Q _=>∃ r:Addr,vs=[.ref r]/\Rw H r/\∀ (g:Int) (H':Hp),lo <= g->g <= hi->Stp r H H'->Q (.int g) H'
theorem at6 {x0 x1 x2 x3 x4 x5:Int} {lo hi g:Int} (h0:0 <= g) (h1:g < 6) (a0:lo <= x0/\x0 <= hi) (a1:lo <= x1/\x1 <= hi) (a2:lo <= x2/\x2 <= hi) (a3:lo <= x3/\x3 <= hi) (a4:lo <= x4/\x4 <= hi) (a5:lo <= x5/\x5 <= hi) :
   ∃ v:Int,atI [V.int x0,V.int x1,V.int x2,V.int x3,V.int x4,V.int x5] g=some (.int v)/\lo <= v/\v <= hi:=by
 have:g=0\/g=1\/g=2\/g=3\/g=4\/g=5:=by omega
 rcases this with rfl | rfl | rfl | rfl | rfl | rfl
 · exact ⟨x0,rfl,a0⟩
 · exact ⟨x1,rfl,a1⟩
 · exact ⟨x2,rfl,a2⟩
 · exact ⟨x3,rfl,a3⟩
 · exact ⟨x4,rfl,a4⟩
 · exact ⟨x5,rfl,a5⟩
section
variable {P:Program} {w:World} {K:PySem.W.Frag} {mg:Str->Option Value} {base:Heap} {a:Ad} {d:Fd}
theorem ok_size (G:Gs K mg a d):FnOk P w K mg base CX0 2 a.law_size d.law_size ["well"] (sp_num 1 8):=by
 have c_law_draw:FnOk P w K mg base CX0 1 _ _ _ _:=ok_draw G
 refine G.f_law_size.ok sc_law_size (λvs H Q E h=>?_) (λcdv A outer s H vs Q E hr h=>?_)
 · obtain ⟨r,rfl,_⟩:=h
   rfl
 · obtain ⟨r,rfl,hR,k⟩:=h
   refine ⟨_,(@pss_one _ _ _ (@ps_ret _ _ _ _ (@pe_ix _ _ _ _ _ _ _ ix_list (@pe_lst _ _ _ _ (@pa_cons _ _ _ _ _ pe_int (@pa_cons _ _ _ _ _ pe_int (@pa_cons _ _ _ _ _ pe_int (@pa_cons _ _ _ _ _ pe_int (@pa_cons _ _ _ _ _ (@pe_op _ _ _ _ _ _ _ _ op_add pe_int (pe_call c_law_draw (hr.mono (by decide)) (by rfl) G.m_law_draw G.f_law_draw.kp G.b_law_draw .nil pass0 (@pa_cons _ _ _ _ _ (pv 0) (@pa_cons _ _ _ _ _ pe_int pa_nil (by rfl)) (by rfl)))) (@pa_cons _ _ _ _ _ (@pe_op _ _ _ _ _ _ _ _ op_add pe_int (pe_call c_law_draw (hr.mono (by decide)) (by rfl) G.m_law_draw G.f_law_draw.kp G.b_law_draw .nil pass0 (@pa_cons _ _ _ _ _ (pv 0) (@pa_cons _ _ _ _ _ pe_int pa_nil (by rfl)) (by rfl)))) pa_nil (by rfl)) (by rfl)) (by rfl)) (by rfl)) (by rfl)) (by rfl))) (pe_call c_law_draw (hr.mono (by decide)) (by rfl) G.m_law_draw G.f_law_draw.kp G.b_law_draw .nil pass0 (@pa_cons _ _ _ _ _ (pv 0) (@pa_cons _ _ _ _ _ pe_int pa_nil (by rfl)) (by rfl))) (λ_ _=>rfl)))),?_⟩
   refine ⟨_,rfl,r,8,rfl,hR,by decide,by decide,λg1 H1 _ _ S1=>⟨_,_,rfl,rfl,_,rfl,r,3,rfl,S1.row,by decide,by decide,λg2 H2 _ _ S2=>⟨_,_,rfl,rfl,(by show 6 <= sizeLine;decide),λp hp=>⟨_,rfl,r,6,rfl,(S2.new hp).row,by decide,by decide,λg3 H3 h0 h1 S3=>?_⟩⟩⟩⟩
   obtain ⟨v,hv,v0,v1⟩:=at6 (lo:=1) (hi:=8) (x0:=1) (x1:=2) (x2:=3) (x3:=8) (x4:=1+g1) (x5:=1+g2) h0 h1 (by omega) (by omega) (by omega) (by omega) (by omega) (by omega)
   exact ⟨p,_,_,_,rfl,rfl,SqL.of (S3.keep _ _ (S2.row.ne hp) upd_same),hv,k v H3 v0 v1 (((S1.trans S2).new hp).trans S3)⟩
theorem ok_names (G:Gs K mg a d):FnOk P w K mg base CX0 2 a.law_names d.law_names ["well"] (sp_num 1 9):=by
 have c_law_draw:FnOk P w K mg base CX0 1 _ _ _ _:=ok_draw G
 refine G.f_law_names.ok sc_law_names (λvs H Q E h=>?_) (λcdv A outer s H vs Q E hr h=>?_)
 · obtain ⟨r,rfl,_⟩:=h
   rfl
 · obtain ⟨r,rfl,hR,k⟩:=h
   refine ⟨_,(@pss_one _ _ _ (@ps_ret _ _ _ _ (@pe_ix _ _ _ _ _ _ _ ix_list (@pe_lst _ _ _ _ (@pa_cons _ _ _ _ _ pe_int (@pa_cons _ _ _ _ _ pe_int (@pa_cons _ _ _ _ _ pe_int (@pa_cons _ _ _ _ _ pe_int (@pa_cons _ _ _ _ _ (@pe_op _ _ _ _ _ _ _ _ op_add pe_int (pe_call c_law_draw (hr.mono (by decide)) (by rfl) G.m_law_draw G.f_law_draw.kp G.b_law_draw .nil pass0 (@pa_cons _ _ _ _ _ (pv 0) (@pa_cons _ _ _ _ _ pe_int pa_nil (by rfl)) (by rfl)))) (@pa_cons _ _ _ _ _ (@pe_op _ _ _ _ _ _ _ _ op_add pe_int (pe_call c_law_draw (hr.mono (by decide)) (by rfl) G.m_law_draw G.f_law_draw.kp G.b_law_draw .nil pass0 (@pa_cons _ _ _ _ _ (pv 0) (@pa_cons _ _ _ _ _ pe_int pa_nil (by rfl)) (by rfl)))) pa_nil (by rfl)) (by rfl)) (by rfl)) (by rfl)) (by rfl)) (by rfl))) (pe_call c_law_draw (hr.mono (by decide)) (by rfl) G.m_law_draw G.f_law_draw.kp G.b_law_draw .nil pass0 (@pa_cons _ _ _ _ _ (pv 0) (@pa_cons _ _ _ _ _ pe_int pa_nil (by rfl)) (by rfl))) (λ_ _=>rfl)))),?_⟩
   refine ⟨_,rfl,r,9,rfl,hR,by decide,by decide,λg1 H1 _ _ S1=>⟨_,_,rfl,rfl,_,rfl,r,8,rfl,S1.row,by decide,by decide,λg2 H2 _ _ S2=>⟨_,_,rfl,rfl,(by show 6 <= sizeLine;decide),λp hp=>⟨_,rfl,r,6,rfl,(S2.new hp).row,by decide,by decide,λg3 H3 h0 h1 S3=>?_⟩⟩⟩⟩
   obtain ⟨v,hv,v0,v1⟩:=at6 (lo:=1) (hi:=9) (x0:=1) (x1:=2) (x2:=3) (x3:=9) (x4:=1+g1) (x5:=2+g2) h0 h1 (by omega) (by omega) (by omega) (by omega) (by omega) (by omega)
   exact ⟨p,_,_,_,rfl,rfl,SqL.of (S3.keep _ _ (S2.row.ne hp) upd_same),hv,k v H3 v0 v1 (((S1.trans S2).new hp).trans S3)⟩
theorem ok_worth (G:Gs K mg a d):FnOk P w K mg base CX0 2 a.law_worth d.law_worth ["well"] (sp_num (-1000000000) 1000000000):=by
 have c_law_draw:FnOk P w K mg base CX0 1 _ _ _ _:=ok_draw G
 refine G.f_law_worth.ok sc_law_worth (λvs H Q E h=>?_) (λcdv A outer s H vs Q E hr h=>?_)
 · obtain ⟨r,rfl,_⟩:=h
   rfl
 · obtain ⟨r,rfl,hR,k⟩:=h
   refine ⟨_,(@pss_cons _ _ _ _ _ (@ps_set _ _ 1 _ _ _ _ sc_law_worth.nd rfl (Or.inl rfl) (@pe_op _ _ _ _ _ _ _ _ op_sub (@pe_op _ _ _ _ _ _ _ _ op_mod (@pe_op _ _ _ _ _ _ _ _ op_add (@pe_op _ _ _ _ _ _ _ _ op_mul (pe_call c_law_draw (hr.mono (by decide)) (by rfl) G.m_law_draw G.f_law_draw.kp G.b_law_draw .nil pass0 (@pa_cons _ _ _ _ _ (pv 0) (@pa_cons _ _ _ _ _ pe_int pa_nil (by rfl)) (by rfl))) pe_int) (pe_call c_law_draw (hr.mono (by decide)) (by rfl) G.m_law_draw G.f_law_draw.kp G.b_law_draw .nil pass0 (@pa_cons _ _ _ _ _ (pv 0) (@pa_cons _ _ _ _ _ pe_int pa_nil (by rfl)) (by rfl)))) (@pe_op _ _ _ _ _ _ _ _ op_add (@pe_op _ _ _ _ _ _ _ _ op_mul pe_int (@pe_op _ _ _ _ _ _ _ _ op_pow pe_int pe_int)) pe_int)) (@pe_op _ _ _ _ _ _ _ _ op_pow pe_int pe_int)) (by rfl) (by first | exact .inl rfl | exact .inr rfl | assumption))
     (@pss_one _ _ _ (@ps_ret _ _ _ _ (@pe_ix _ _ _ _ _ _ _ ix_list (@pe_lst _ _ _ _ (@pa_cons _ _ _ _ _ pe_int (@pa_cons _ _ _ _ _ pe_int (@pa_cons _ _ _ _ _ (@pe_op _ _ _ _ _ _ _ _ op_pow pe_int pe_int) (@pa_cons _ _ _ _ _ (pe_un un_neg (@pe_op _ _ _ _ _ _ _ _ op_pow pe_int pe_int)) (@pa_cons _ _ _ _ _ (pv 1) (@pa_cons _ _ _ _ _ (pv 1) pa_nil (by rfl)) (by rfl)) (by rfl)) (by rfl)) (by rfl)) (by rfl))) (pe_call c_law_draw (hr.mono (by decide)) (by rfl) G.m_law_draw G.f_law_draw.kp G.b_law_draw .nil pass0 (@pa_cons _ _ _ _ _ (pv 0) (@pa_cons _ _ _ _ _ pe_int pa_nil (by rfl)) (by rfl))) (λ_ _=>rfl))))),?_⟩
   refine ⟨_,rfl,r,50000,rfl,hR,by decide,by decide,λg1 H1 p0 p1 S1=>⟨_,_,rfl,rfl,cmul_nn p0 (by omega),_,rfl,r,40001,rfl,S1.row,by decide,by decide,λg2 H2 q0 q1 S2=>?_⟩⟩
   refine ⟨_,_,rfl,rfl,_,_,rfl,rfl,⟨by decide,by decide,by decide⟩,_,_,rfl,rfl,cmul_nn (by decide) (by decide),_,_,rfl,rfl,_,_,rfl,rfl,by show (0:Int) < 2 * 10 ^ (9:Int).toNat+1;decide,_,_,rfl,rfl,⟨by decide,by decide,by decide⟩,_,_,rfl,rfl,?_⟩
   have f0:=Int.emod_nonneg (g1 * 40001+g2) (show (2 * 10 ^ (9:Int).toNat+1:Int)≠0 by decide)
   have f1:=Int.emod_lt_of_pos (g1 * 40001+g2) (show (0:Int) < 2 * 10 ^ (9:Int).toNat+1 by decide)
   have e9:(10:Int) ^ (9:Int).toNat=1000000000:=by decide
   rw [e9] at f0 f1
   refine ⟨_,_,rfl,rfl,⟨by decide,by decide,by decide⟩,_,_,rfl,rfl,⟨by decide,by decide,by decide⟩,_,rfl,_,rfl,_,rfl,(by show 6 <= sizeLine;decide),λp hp=>⟨_,rfl,r,6,rfl,(S2.new hp).row,by decide,by decide,λg3 H3 h0 h1 S3=>?_⟩⟩
   obtain ⟨v,hv,v0,v1⟩:=at6 (lo:=-1000000000) (hi:=1000000000) (x0:=0) (x1:=1) (x2:=10 ^ (9:Int).toNat) (x3:=-(10 ^ (9:Int).toNat)) (x4:=(g1 * 40001+g2) % (2 * 10 ^ (9:Int).toNat+1) - 10 ^ (9:Int).toNat) (x5:=(g1 * 40001+g2) % (2 * 10 ^ (9:Int).toNat+1) - 10 ^ (9:Int).toNat) h0 h1 (by omega) (by omega) (by rw [e9];omega) (by rw [e9];omega) (by rw [e9];omega) (by rw [e9];omega)
   exact ⟨p,_,_,_,rfl,rfl,SqL.of (S3.keep _ _ (S2.row.ne hp) upd_same),hv,k v H3 v0 v1 (((S1.trans S2).new hp).trans S3)⟩
end

def WV (H:Hp) (v:V):Prop:=∃ d,MX.kd d=true/\d.depth <= 8/\DV H d v
theorem WV.zero {H:Hp} {v:V} {d:PyData} (h:MX.kd d=true) (hv:DV H d v):(PyData.eqv d (.int 0)=true ↔ v=.int 0):=by
 rw [MX.eqv_iff d _ h rfl]
 constructor
 · rintro rfl;exact hv
 · rintro rfl
   cases d with
   | int i =>
     have:V.int 0=V.int i:=hv
     rw [vint_inj this]
   | str t=>cases (show V.int 0=V.str t from hv)
   | tuple ds=>obtain ⟨_,_,e,_⟩:=hv;cases e
   | none=>cases h
   | bool=>cases h
   | list=>cases h
   | dict=>cases h

def nz (p:PyData × V):Bool:=decide (p.2≠.int 0)
def sp_cells (w:World) (C:Addr):Sp:=λvs H Q _=>∃ (x hd rl:Addr) (l:Bool->Addr) (M:List (PyData × V)) (r:Bool->List (PyData × V)),vs=[.ref x]/\Sto w C H x hd rl l M r/\TopK M/\M.length < 100000/\(∀ p∈M,WV H p.2) /\
 ∀ (p:Addr) (ts:List V),H p=none->Paired (λ(kv:PyData × V) t=>KeyV H kv.1 t) (M.filter nz) ts->Q (.ref p) (upd H p (.lst ts))
section
variable {P:Program} {w:World} {K:PySem.W.Frag} {mg:Str->Option Value} {base:Heap} {a:Ad} {d:Fd}
end

theorem iteDF {c A B:Prop} [Decidable c] (hc:¬ c) (h:B):if decide c=true then A else B:=by
 rw [decide_eq_false hc];exact iteF h
theorem iteDT {c A B:Prop} [Decidable c] (hc:c) (h:A):if decide c=true then A else B:=by
 rw [decide_eq_true hc];exact iteT h
def sp_same:Nat->Sp
 | 0=>λ_ _ _ _=>False
 | n+1=>λvs H Q _=>∃ (x y:V) (dd:PyData),vs=[x,y]/\DV H dd x/\DV H dd y/\LayD dd/\dd.depth <= n/\∀ H',Same H H'->Q (.bl true) H'
section
variable {K:PySem.W.Frag}
theorem kbb:PySem.W.kitOne K (.type "bool") (.type "bool")=some true:=by rfl
theorem kib:PySem.W.kitOne K (.type "int") (.type "bool")=some false:=by rfl
theorem kii:PySem.W.kitOne K (.type "int") (.type "int")=some true:=by rfl
theorem ksb:PySem.W.kitOne K (.type "str") (.type "bool")=some false:=by rfl
theorem ksi:PySem.W.kitOne K (.type "str") (.type "int")=some false:=by rfl
theorem kss:PySem.W.kitOne K (.type "str") (.type "str")=some true:=by rfl
theorem ktb:PySem.W.kitOne K (.type "tuple") (.type "bool")=some false:=by rfl
theorem kti:PySem.W.kitOne K (.type "tuple") (.type "int")=some false:=by rfl
theorem kts:PySem.W.kitOne K (.type "tuple") (.type "str")=some false:=by rfl
theorem ktt:PySem.W.kitOne K (.type "tuple") (.type "tuple")=some true:=by rfl
theorem ktl:PySem.W.kitOne K (.type "tuple") (.type "list")=some false:=by rfl
theorem klb:PySem.W.kitOne K (.type "list") (.type "bool")=some false:=by rfl
theorem kli:PySem.W.kitOne K (.type "list") (.type "int")=some false:=by rfl
theorem kls:PySem.W.kitOne K (.type "list") (.type "str")=some false:=by rfl
theorem klt:PySem.W.kitOne K (.type "list") (.type "tuple")=some false:=by rfl
theorem kll:PySem.W.kitOne K (.type "list") (.type "list")=some true:=by rfl
end
theorem lay_at:∀ {ds:List PyData} {i:Nat} {e:PyData},PyData.canLayAll0 ds=true->ds[i]?=some e->e.canLay0=true/\e.depth <= PyData.depthAll ds
 | [],_,_,_,h=>by simp at h
 | d :: ds,0,e,hl,h=>by
   simp at h
   subst h
   have h':d.canLay0=true/\PyData.canLayAll0 ds=true:=by simpa [PyData.canLayAll0] using hl
   exact ⟨h'.1,by show d.depth <= max d.depth _;omega⟩
 | d :: ds,i+1,e,hl,h=>by
   have h':d.canLay0=true/\PyData.canLayAll0 ds=true:=by simpa [PyData.canLayAll0] using hl
   obtain ⟨a,b⟩:=lay_at (i:=i) (e:=e) h'.2 (by simpa using h)
   exact ⟨a,by show e.depth <= max d.depth (PyData.depthAll ds);omega⟩
section
variable {P:Program} {w:World} {K:PySem.W.Frag} {mg:Str->Option Value} {base:Heap} {a:Ad} {d:Fd}
theorem ok_same (G:Gs K mg a d):∀ n,FnOk P w K mg base CX0 n a.law_same d.law_same ["got","due"] (sp_same n)
 | 0=>⟨λ_ _ _ _ h=>h.elim,λ_ _ _ _ _ _ _ _ _ _ _ _ _ h=>h.elim⟩
 | n+1=>by
   have c_law_same:FnOk P w K mg base CX0 n _ _ _ _:=ok_same G n
   refine G.f_law_same.ok sc_law_same (λvs H Q E h=>?_) (λcdv A outer st H vs Q E hr h=>?_)
   · obtain ⟨x,y,dd,rfl,_⟩:=h
     rfl
   · obtain ⟨x,y,dd,rfl,hx,hy,lay,hd,k⟩:=h
     refine ⟨_,(@pss_cons _ _ _ _ _ (ps_if (pt_cmpR op_isN (pv 1) pe_non (nomark _)) (@pss_one _ _ _ (@ps_ret _ _ _ _ (pe_cmpR op_isN (pv 0) pe_non (nomark _)))) pss_nil)
     (@pss_cons _ _ _ _ _ (ps_if (pt_val (pe_callB call_isinst (by rfl) G.n_isinstance bt_isinstance (@pa_cons _ _ _ _ _ (pv 1) (@pa_cons _ _ _ _ _ (pe_bltn (v:=.ty "bool") (by rfl) G.n_bool bt_bool rfl) pa_nil (by rfl)) (by rfl)))) (@pss_one _ _ _ (@ps_ret _ _ _ _ (pe_and (pe_callB call_isinst (by rfl) G.n_isinstance bt_isinstance (@pa_cons _ _ _ _ _ (pv 0) (@pa_cons _ _ _ _ _ (pe_bltn (v:=.ty "bool") (by rfl) G.n_bool bt_bool rfl) pa_nil (by rfl)) (by rfl))) (pe_one (pe_cmpR (op_eqD hr.units) (pv 0) (pv 1) (nomark _)))))) pss_nil)
     (@pss_cons _ _ _ _ _ (ps_if (pt_val (pe_callB call_isinst (by rfl) G.n_isinstance bt_isinstance (@pa_cons _ _ _ _ _ (pv 1) (@pa_cons _ _ _ _ _ (pe_bltn (v:=.ty "int") (by rfl) G.n_int bt_int rfl) pa_nil (by rfl)) (by rfl)))) (@pss_one _ _ _ (@ps_ret _ _ _ _ (pe_and (pe_callB call_isinst (by rfl) G.n_isinstance bt_isinstance (@pa_cons _ _ _ _ _ (pv 0) (@pa_cons _ _ _ _ _ (pe_bltn (v:=.ty "int") (by rfl) G.n_int bt_int rfl) pa_nil (by rfl)) (by rfl))) (pe_and (pe_not (pe_callB call_isinst (by rfl) G.n_isinstance bt_isinstance (@pa_cons _ _ _ _ _ (pv 0) (@pa_cons _ _ _ _ _ (pe_bltn (v:=.ty "bool") (by rfl) G.n_bool bt_bool rfl) pa_nil (by rfl)) (by rfl)))) (pe_one (pe_cmpR (op_eqD hr.units) (pv 0) (pv 1) (nomark _))))))) pss_nil)
     (@pss_cons _ _ _ _ _ (ps_if (pt_val (pe_callB call_isinst (by rfl) G.n_isinstance bt_isinstance (@pa_cons _ _ _ _ _ (pv 1) (@pa_cons _ _ _ _ _ (pe_bltn (v:=.ty "str") (by rfl) G.n_str bt_str rfl) pa_nil (by rfl)) (by rfl)))) (@pss_one _ _ _ (@ps_ret _ _ _ _ (pe_and (pe_callB call_isinst (by rfl) G.n_isinstance bt_isinstance (@pa_cons _ _ _ _ _ (pv 0) (@pa_cons _ _ _ _ _ (pe_bltn (v:=.ty "str") (by rfl) G.n_str bt_str rfl) pa_nil (by rfl)) (by rfl))) (pe_one (pe_cmpR (op_eqD hr.units) (pv 0) (pv 1) (nomark _)))))) pss_nil)
     (@pss_cons _ _ _ _ _ (ps_if ((pw_and (pt_val (pe_callB call_isinst (by rfl) G.n_isinstance bt_isinstance (@pa_cons _ _ _ _ _ (pv 1) (@pa_cons _ _ _ _ _ (pe_bltn (v:=.ty "tuple") (by rfl) G.n_tuple bt_tuple rfl) pa_nil (by rfl)) (by rfl)))) (pw_and1 (pt_not (pt_val (pe_callB call_isinst (by rfl) G.n_isinstance bt_isinstance (@pa_cons _ _ _ _ _ (pv 0) (@pa_cons _ _ _ _ _ (pe_bltn (v:=.ty "tuple") (by rfl) G.n_tuple bt_tuple rfl) pa_nil (by rfl)) (by rfl)))))))).pt (@pss_one _ _ _ (@ps_ret _ _ _ _ pe_bl)) pss_nil)
     (@pss_cons _ _ _ _ _ (ps_if ((pw_and (pt_val (pe_callB call_isinst (by rfl) G.n_isinstance bt_isinstance (@pa_cons _ _ _ _ _ (pv 1) (@pa_cons _ _ _ _ _ (pe_bltn (v:=.ty "list") (by rfl) G.n_list bt_list rfl) pa_nil (by rfl)) (by rfl)))) (pw_and1 (pt_not (pt_val (pe_callB call_isinst (by rfl) G.n_isinstance bt_isinstance (@pa_cons _ _ _ _ _ (pv 0) (@pa_cons _ _ _ _ _ (pe_bltn (v:=.ty "list") (by rfl) G.n_list bt_list rfl) pa_nil (by rfl)) (by rfl)))))))).pt (@pss_one _ _ _ (@ps_ret _ _ _ _ pe_bl)) pss_nil)
     (@pss_cons _ _ _ _ _ (ps_if (pt_cmpR op_ne (pe_callB call_len_b (by rfl) G.n_len bt_len (@pa_cons _ _ _ _ _ (pv 0) pa_nil (by rfl))) (pe_callB call_len_b (by rfl) G.n_len bt_len (@pa_cons _ _ _ _ _ (pv 1) pa_nil (by rfl))) (nomark _)) (@pss_one _ _ _ (@ps_ret _ _ _ _ pe_bl)) pss_nil)
     (@pss_cons _ _ _ _ _ (ps_for PassesOwn.never rfl (pi_zip (by rfl) G.n_zip (@pa_cons _ _ _ _ _ (pv 0) (@pa_cons _ _ _ _ _ (pv 1) pa_nil (by rfl)) (by rfl))) (pg_tup rfl (pgs_cons (pg_name (i:=2) sc_law_same.nd rfl (Or.inl rfl)) (pgs_cons (pg_name (i:=3) sc_law_same.nd rfl (Or.inl rfl)) pgs_nil))) (@pss_one _ _ _ (ps_if (pt_not (pt_val (pe_call c_law_same hr (by rfl) G.m_law_same G.f_law_same.kp G.b_law_same .nil pass0 (@pa_cons _ _ _ _ _ (pv 2) (@pa_cons _ _ _ _ _ (pv 3) pa_nil (by rfl)) (by rfl))))) (@pss_one _ _ _ (@ps_ret _ _ _ _ pe_bl)) pss_nil)))
     (@pss_one _ _ _ (@ps_ret _ _ _ _ pe_bl)))))))))),?_⟩
     cases dd with
     | none =>
       cases (show x=.non from hx)
       cases (show y=.non from hy)
       exact ⟨_,rfl,rfl,_,rfl,iteDT rfl ⟨_,rfl,rfl,k _ (Same.refl _)⟩⟩
     | bool b =>
       cases (show x=.bl b from hx)
       cases (show y=.bl b from hy)
       refine ⟨_,rfl,rfl,_,rfl,iteDF (by intro z;cases z) ?_⟩
       refine ⟨_,rfl,_,_,_,_,rfl,.bl b,kbb,_,rfl,iteT ?_⟩
       refine ⟨_,rfl,_,_,_,_,rfl,.bl b,kbb,_,rfl,iteT ⟨_,rfl,_,rfl,.bool b,.bool b,rfl,rfl,lay,lay,?_⟩⟩
       simp only [Bool.false_eq_true,if_false]
       rw [eqv_refl _ lay.1]
       exact k _ (Same.refl _)
     | int i =>
       cases (show x=.int i from hx)
       cases (show y=.int i from hy)
       refine ⟨_,rfl,rfl,_,rfl,iteDF (by intro z;cases z) ?_⟩
       refine ⟨_,rfl,_,_,_,_,rfl,.int i,kib,_,rfl,iteF ?_⟩
       refine ⟨_,rfl,_,_,_,_,rfl,.int i,kii,_,rfl,iteT ?_⟩
       refine ⟨_,rfl,_,_,_,_,rfl,.int i,kii,_,rfl,iteT ⟨_,rfl,_,_,_,_,rfl,.int i,kib,_,rfl,_,rfl,iteT ⟨_,rfl,_,rfl,.int i,.int i,rfl,rfl,lay,lay,?_⟩⟩⟩
       simp only [Bool.false_eq_true,if_false]
       rw [eqv_refl _ lay.1]
       exact k _ (Same.refl _)
     | str t =>
       cases (show x=.str t from hx)
       cases (show y=.str t from hy)
       refine ⟨_,rfl,rfl,_,rfl,iteDF (by intro z;cases z) ?_⟩
       refine ⟨_,rfl,_,_,_,_,rfl,.str t,ksb,_,rfl,iteF ?_⟩
       refine ⟨_,rfl,_,_,_,_,rfl,.str t,ksi,_,rfl,iteF ?_⟩
       refine ⟨_,rfl,_,_,_,_,rfl,.str t,kss,_,rfl,iteT ?_⟩
       refine ⟨_,rfl,_,_,_,_,rfl,.str t,kss,_,rfl,iteT ⟨_,rfl,_,rfl,.str t,.str t,rfl,rfl,lay,lay,?_⟩⟩
       simp only [Bool.false_eq_true,if_false]
       rw [eqv_refl _ lay.1]
       exact k _ (Same.refl _)
     | dict _=>exact hx.elim
     | list ds =>
       obtain ⟨xa,xs,rfl,hxa,dxs⟩:=hx
       obtain ⟨ya,ys,rfl,hya,dys⟩:=hy
       have lx:=DVs.length dxs
       have ly:=DVs.length dys
       have hd':PyData.depthAll ds+1 <= n:=hd
       have hl':PyData.canLayAll0 ds=true:=lay.1
       have hl16:PyData.depthAll ds+1 <= 16:=lay.2
       cases n with
       | zero=>exact absurd hd' (by omega)
       | succ m =>
         refine ⟨_,rfl,rfl,_,rfl,iteDF (by intro z;cases z) ?_⟩
         refine ⟨_,rfl,_,_,_,_,rfl,.lst hya,klb,_,rfl,iteF ?_⟩
         refine ⟨_,rfl,_,_,_,_,rfl,.lst hya,kli,_,rfl,iteF ?_⟩
         refine ⟨_,rfl,_,_,_,_,rfl,.lst hya,kls,_,rfl,iteF ?_⟩
         refine ⟨_,rfl,_,_,_,_,rfl,.lst hya,klt,_,rfl,iteF (iteF ?_)⟩
         refine ⟨_,rfl,_,_,_,_,rfl,.lst hya,kll,_,rfl,iteT ⟨_,rfl,_,_,_,_,rfl,.lst hxa,kll,_,rfl,iteF ?_⟩⟩
         refine ⟨_,rfl,xa,xs,rfl,.inl (SqL.of hxa),λ_=>⟨_,rfl,ya,ys,rfl,.inl (SqL.of hya),λhz=>⟨rfl,_,rfl,iteNS (congrArg V.int (by rw [lx,ly])) ?_⟩⟩⟩
         refine ⟨_,rfl,_,rfl,false,xa,ya,xs,ys,rfl,SqL.of hxa,SqL.of hya,for_zip (b:=false) (by rw [lx,ly]) (λi σ H'=>(∃ v2 v3,σ=[some (.ref xa),some (.ref ya),v2,v3])/\Same H H') ⟨⟨_,_,rfl⟩,Same.refl _⟩ (λ_ _ _ _ z=>⟨SqL.of (z.2 _ _ hxa),SqL.of (z.2 _ _ hya)⟩) ?_ ?_⟩
         · rintro i x y T σ H2 gx gy hT ⟨⟨v2,v3,rfl⟩,e2⟩
           obtain ⟨d1,g1,q1⟩:=DVs.get dxs gx
           obtain ⟨d2,g2,q2⟩:=DVs.get dys gy
           rw [g1] at g2
           cases g2
           have e3:=e2.trans (same_new (o:=.tup [x,y]) hT)
           obtain ⟨la,lb⟩:=lay_at hl' g1
           refine ⟨T,_,rfl,SqT.of upd_same,rfl,_,_,rfl,_,_,rfl,rfl,?_⟩
           exact ⟨_,rfl,_,rfl,x,y,d1,rfl,DV.mono (λb vs e=>e3 b _ e) (λb vs e=>e3 b _ e) _ _ q1,DV.mono (λb vs e=>e3 b _ e) (λb vs e=>e3 b _ e) _ _ q2,⟨la,by omega⟩,by omega,λH4 e4=>⟨_,rfl,iteF ⟨⟨_,_,rfl⟩,e3.trans e4⟩⟩⟩
         · rintro σ H2 ⟨⟨v2,v3,rfl⟩,e2⟩
           exact k _ e2
     | tuple ds =>
       obtain ⟨xa,xs,rfl,hxa,dxs⟩:=hx
       obtain ⟨ya,ys,rfl,hya,dys⟩:=hy
       have lx:=DVs.length dxs
       have ly:=DVs.length dys
       have hd':PyData.depthAll ds+1 <= n:=hd
       have hl':PyData.canLayAll0 ds=true:=lay.1
       have hl16:PyData.depthAll ds+1 <= 16:=lay.2
       cases n with
       | zero=>exact absurd hd' (by omega)
       | succ m =>
         refine ⟨_,rfl,rfl,_,rfl,iteDF (by intro z;cases z) ?_⟩
         refine ⟨_,rfl,_,_,_,_,rfl,.tup hya,ktb,_,rfl,iteF ?_⟩
         refine ⟨_,rfl,_,_,_,_,rfl,.tup hya,kti,_,rfl,iteF ?_⟩
         refine ⟨_,rfl,_,_,_,_,rfl,.tup hya,kts,_,rfl,iteF ?_⟩
         refine ⟨_,rfl,_,_,_,_,rfl,.tup hya,ktt,_,rfl,iteT ⟨_,rfl,_,_,_,_,rfl,.tup hxa,ktt,_,rfl,iteF ?_⟩⟩
         refine ⟨_,rfl,_,_,_,_,rfl,.tup hya,ktl,_,rfl,iteF (iteF ?_)⟩
         refine ⟨_,rfl,xa,xs,rfl,.inr (SqT.of hxa),λ_=>⟨_,rfl,ya,ys,rfl,.inr (SqT.of hya),λhz=>⟨rfl,_,rfl,iteNS (congrArg V.int (by rw [lx,ly])) ?_⟩⟩⟩
         refine ⟨_,rfl,_,rfl,true,xa,ya,xs,ys,rfl,SqT.of hxa,SqT.of hya,for_zip (b:=true) (by rw [lx,ly]) (λi σ H'=>(∃ v2 v3,σ=[some (.ref xa),some (.ref ya),v2,v3])/\Same H H') ⟨⟨_,_,rfl⟩,Same.refl _⟩ (λ_ _ _ _ z=>⟨SqT.of (z.2 _ _ hxa),SqT.of (z.2 _ _ hya)⟩) ?_ ?_⟩
         · rintro i x y T σ H2 gx gy hT ⟨⟨v2,v3,rfl⟩,e2⟩
           obtain ⟨d1,g1,q1⟩:=DVs.get dxs gx
           obtain ⟨d2,g2,q2⟩:=DVs.get dys gy
           rw [g1] at g2
           cases g2
           have e3:=e2.trans (same_new (o:=.tup [x,y]) hT)
           obtain ⟨la,lb⟩:=lay_at hl' g1
           refine ⟨T,_,rfl,SqT.of upd_same,rfl,_,_,rfl,_,_,rfl,rfl,?_⟩
           exact ⟨_,rfl,_,rfl,x,y,d1,rfl,DV.mono (λb vs e=>e3 b _ e) (λb vs e=>e3 b _ e) _ _ q1,DV.mono (λb vs e=>e3 b _ e) (λb vs e=>e3 b _ e) _ _ q2,⟨la,by omega⟩,by omega,λH4 e4=>⟨_,rfl,iteF ⟨⟨_,_,rfl⟩,e3.trans e4⟩⟩⟩
         · rintro σ H2 ⟨⟨v2,v3,rfl⟩,e2⟩
           exact k _ e2
end

def sp_next:Sp:=λvs H Q _=>∃ c s r:Int,vs=[.int c,.int s,.int r]/\0 < s/\s <= 8/\0 < s * r/\Q (.int ((c+1) % (s * r))) H
def sp_place:Sp:=λvs H Q _=>∃ c s:Int,vs=[.int c,.int s]/\0 < s/\Q (.int (c % s)) H
def sp_ahead:Sp:=λvs H Q _=>∃ o b s r:Int,vs=[.int o,.int b,.int s,.int r]/\0 < s/\s <= 8/\0 < s * r/\Q (.int ((o - b) % (s * r))) H
section
variable {P:Program} {w:World} {K:PySem.W.Frag} {mg:Str->Option Value} {base:Heap} {a:Ad} {d:Fd}
theorem ok_next (G:Gs K mg a d):FnOk P w K mg base CX0 1 a.next_counter d.next_counter ["counter","size","rounds"] sp_next:=by
 refine G.f_next_counter.ok sc_next_counter (λvs H Q E h=>?_) (λcdv A outer st H vs Q E hr h=>?_)
 · obtain ⟨c,s,r,rfl,_⟩:=h
   rfl
 · obtain ⟨c,s,r,rfl,h0,h1,h2,k⟩:=h
   refine ⟨_,(@pss_one _ _ _ (@ps_ret _ _ _ _ (@pe_op _ _ _ _ _ _ _ _ op_mod (@pe_op _ _ _ _ _ _ _ _ op_add (pv 0) pe_int) (@pe_op _ _ _ _ _ _ _ _ op_mul (pv 1) (pv 2))))),?_⟩
   exact ⟨_,rfl,_,_,rfl,rfl,_,rfl,_,rfl,_,_,rfl,rfl,cmul_nn (by omega) (by omega),_,_,rfl,rfl,h2,k⟩
theorem ok_place (G:Gs K mg a d):FnOk P w K mg base CX0 1 a.place_of d.place_of ["counter","size"] sp_place:=by
 refine G.f_place_of.ok sc_place_of (λvs H Q E h=>?_) (λcdv A outer st H vs Q E hr h=>?_)
 · obtain ⟨c,s,rfl,_⟩:=h
   rfl
 · obtain ⟨c,s,rfl,h0,k⟩:=h
   refine ⟨_,(@pss_one _ _ _ (@ps_ret _ _ _ _ (@pe_op _ _ _ _ _ _ _ _ op_mod (pv 0) (pv 1)))),?_⟩
   exact ⟨_,rfl,_,rfl,_,_,rfl,rfl,h0,k⟩
theorem ok_ahead (G:Gs K mg a d):FnOk P w K mg base CX0 1 a.ahead_by d.ahead_by ["one","other","size","rounds"] sp_ahead:=by
 refine G.f_ahead_by.ok sc_ahead_by (λvs H Q E h=>?_) (λcdv A outer st H vs Q E hr h=>?_)
 · obtain ⟨o,b,s,r,rfl,_⟩:=h
   rfl
 · obtain ⟨o,b,s,r,rfl,h0,h1,h2,k⟩:=h
   refine ⟨_,(@pss_one _ _ _ (@ps_ret _ _ _ _ (@pe_op _ _ _ _ _ _ _ _ op_mod (@pe_op _ _ _ _ _ _ _ _ op_sub (pv 0) (pv 1)) (@pe_op _ _ _ _ _ _ _ _ op_mul (pv 2) (pv 3))))),?_⟩
   exact ⟨_,rfl,_,rfl,_,_,rfl,rfl,_,rfl,_,rfl,_,_,rfl,rfl,cmul_nn (by omega) (by omega),_,_,rfl,rfl,h2,k⟩
end

theorem Stp.kp {r:Addr} {H H':Hp} (S:Stp r H H'):Kp [r] H H':=λc o n e=>S.keep c o (λz=>n (List.mem_singleton.mpr z)) e
theorem Rw.kp {r:Addr} {H H':Hp} {xs:List Addr} (h:Rw H r) (k:Kp xs H H') (n:r ∉ xs):Rw H' r:=by
 obtain ⟨rw,e,q⟩:=h
 exact ⟨rw,k r _ n e,q⟩

def sp_rwith:Sp:=λvs H Q _=>∃ (R:Int) (ft:Addr) (fs:List Str),vs=[.int R,.ref ft]/\H ft=some (.tup (fs.map V.str))/\Q (.int (if fs.contains "round" then 1 else R)) H
def sp_rinit (K:PySem.W.Frag) (CR:Addr):Sp:=λvs H Q _=>∃ (q dx st wa ft:Addr) (b:Bool) (w0 w1 w2:Str) (s R:Int) (fs:List Str),vs=[.ref q,.ref st,.int (sdI b),.ref wa,.int s,.int R,.ref ft]/\H q=some (.ins CR dx [])/\(∀ H,SqT K H wa [.str w0,.str w1,.str w2])/\H ft=some (.tup (fs.map V.str)) /\
 ∀ H',Rn CR H' q st b w0 w1 w2 ⟨s,if fs.contains "round" then 1 else R,fs.contains "counter"⟩->Kp [q] H H'->Q .non H'
def sp_filled (w:World) (CR CS:Addr):Sp:=λvs H Q _=>∃ (q:Addr) (z:SA) (b:Bool) (w0 w1 w2:Str) (p:RP) (M:List (PyData × V)) (r:Bool->List (PyData × V)) (A T:Int),vs=[.ref q]/\Rn CR H q z.x b w0 w1 w2 p/\z.At w CS H M r/\p.Ok/\PyData.strOk w1=true/\PyData.strOk w2=true /\
 readV M (r b) (.str w1)=.int A/\readV M (r b) (.str w2)=.int T/\Q (.int ((A - T) % (p.s * p.R))) H
def sp_full (w:World) (CR CS:Addr):Sp:=λvs H Q _=>∃ (q:Addr) (z:SA) (b:Bool) (w0 w1 w2:Str) (p:RP) (M:List (PyData × V)) (r:Bool->List (PyData × V)) (A T:Int),vs=[.ref q]/\Rn CR H q z.x b w0 w1 w2 p/\z.At w CS H M r/\p.Ok/\PyData.strOk w1=true/\PyData.strOk w2=true /\
 readV M (r b) (.str w1)=.int A/\readV M (r b) (.str w2)=.int T/\Q (.bl (decide ((A - T) % (p.s * p.R)=p.s))) H
def sp_placeat (CR:Addr):Sp:=λvs H Q _=>∃ (q st:Addr) (b:Bool) (w0 w1 w2:Str) (p:RP) (A:Int),vs=[.ref q,.int A]/\Rn CR H q st b w0 w1 w2 p/\p.Ok/\∀ t,H t=none->Q (.ref t) (upd H t (.tup [.str w0,.int (A % p.s)]))
def sp_further (w:World) (CR CS:Addr):Sp:=λvs H Q _=>∃ (q:Addr) (z:SA) (b:Bool) (w0 w1 w2:Str) (p:RP) (M:List (PyData × V)) (r:Bool->List (PyData × V)) (A:Int) (cv:V) (k:PyData),vs=[.ref q,cv,.int A]/\Rn CR H q z.x b w0 w1 w2 p/\z.At w CS H M r/\p.Ok/\(r b).length < 100000/\KeyV H k cv /\
 ∀ H',z.At w CS H' M (setR r b (r b++[(k,.int ((A+1) % (p.s * p.R)))]))->Kp [z.l b] H H'->Q .non H'
def sp_lay (w:World) (CR CS:Addr):Sp:=λvs H Q _=>∃ (q:Addr) (z:SA) (b:Bool) (w0 w1 w2:Str) (p:RP) (M:List (PyData × V)) (r:Bool->List (PyData × V)) (A:Int) (nm wv:V),vs=[.ref q,nm,wv]/\Rn CR H q z.x b w0 w1 w2 p/\z.At w CS H M r/\p.Ok/\PyData.strOk w0=true/\PyData.strOk w1=true/\(r b).length < 99999 /\
 readV M (r b) (.str w1)=.int A/\∀ t H',H t=none->H' t=some (.tup [nm,wv])->z.At w CS H' M (setR r b (r b++layRow p w0 w1 A (.ref t)))->Kp [z.l b] H H'->Q .non H'
def sp_fetch (w:World) (CR CS:Addr):Sp:=λvs H Q _=>∃ (q:Addr) (z:SA) (b:Bool) (w0 w1 w2:Str) (p:RP) (M:List (PyData × V)) (r:Bool->List (PyData × V)) (A T:Int),vs=[.ref q]/\Rn CR H q z.x b w0 w1 w2 p/\z.At w CS H M r/\p.Ok/\PyData.strOk w0=true/\PyData.strOk w1=true/\PyData.strOk w2=true/\(r b).length < 100000 /\
 readV M (r b) (.str w1)=.int A/\readV M (r b) (.str w2)=.int T/\(if (A - T) % (p.s * p.R)=0 then Q .non H else
   (∃ c vs,readV M (r b) (.tuple [.str w0,.int (T % p.s)])=.ref c/\H c=some (.tup vs)/\∀ H',z.At w CS H' M (setR r b (r b++[(.str w2,.int ((T+1) % (p.s * p.R)))]))->Kp [z.l b] H H'->Q (.ref c) H') \/
   ∃ i,readV M (r b) (.tuple [.str w0,.int (T % p.s)])=.int i/\∀ t H',H t=none->H' t=some (.tup [.non,.non])->z.At w CS H' M (setR r b (r b++[(.str w2,.int ((T+1) % (p.s * p.R)))]))->Kp [z.l b] H H'->Q (.ref t) H')
section
variable {P:Program} {w:World} {K:PySem.W.Frag} {mg:Str->Option Value} {base:Heap} {a:Ad} {d:Fd}
theorem ok_rwith (G:Gs K mg a d):FnOk P w K mg base CX0 1 a.rounds_with d.rounds_with ["rounds","faults"] sp_rwith:=by
 refine G.f_rounds_with.ok sc_rounds_with (λvs H Q E h=>?_) (λcdv A outer s H vs Q E hr h=>?_)
 · obtain ⟨R,ft,fs,rfl,_⟩:=h
   rfl
 · obtain ⟨R,ft,fs,rfl,hf,k⟩:=h
   refine ⟨_,(@pss_one _ _ _ (@ps_ret _ _ _ _ (pe_ifExp (pt_cmpR op_in_seq pe_str (pv 1) (by with_unfolding_all rfl)) pe_int (pv 0)))),?_⟩
   refine ⟨_,rfl,ft,_,rfl,.inr (SqT.of hf),rfl,strs_flat fs,_,rfl,?_⟩
   simp only [Bool.false_eq_true,if_false]
   rw [inV_str]
   by_cases hb:fs.contains "round"=true
   · rw [if_pos hb] at k ⊢
     exact k
   · rw [if_neg hb] at k ⊢
     exact ⟨_,rfl,k⟩
theorem ok_rinit (G:Gs K mg a d):FnOk P w K mg base CX0 2 a.Ring__init d.Ring__init ["self","store","side","words","size","rounds","faults"] (sp_rinit K a.Ring):=by
 have c_rounds_with:FnOk P w K mg base CX0 1 _ _ _ _:=ok_rwith G
 refine G.f_Ring__init.ok sc_Ring__init (λvs H Q E h=>?_) (λcdv A outer s H vs Q E hr h=>?_)
 · obtain ⟨q,dx,st,wa,ft,b,w0,w1,w2,s,R,fs,rfl,_⟩:=h
   rfl
 · obtain ⟨q,dx,st,wa,ft,b,w0,w1,w2,s,R,fs,rfl,hx,hw,hf,k⟩:=h
   refine ⟨_,(@pss_cons _ _ _ _ _ (ps_fld (pv 0) (pv 1) rfl)
     (@pss_cons _ _ _ _ _ (ps_fld (pv 0) (pv 2) rfl)
     (@pss_cons _ _ _ _ _ (ps_fld (pv 0) (@pe_ix _ _ _ _ _ _ _ ix_tup (pv 3) pe_int (λ_ _=>rfl)) rfl)
     (@pss_cons _ _ _ _ _ (ps_fld (pv 0) (@pe_ix _ _ _ _ _ _ _ ix_tup (pv 3) pe_int (λ_ _=>rfl)) rfl)
     (@pss_cons _ _ _ _ _ (ps_fld (pv 0) (@pe_ix _ _ _ _ _ _ _ ix_tup (pv 3) pe_int (λ_ _=>rfl)) rfl)
     (@pss_cons _ _ _ _ _ (ps_fld (pv 0) (pv 4) rfl)
     (@pss_cons _ _ _ _ _ (ps_fld (pv 0) (pe_call c_rounds_with (hr.mono (by decide)) (by rfl) G.m_rounds_with G.f_rounds_with.kp G.b_rounds_with .nil pass0 (@pa_cons _ _ _ _ _ (pv 5) (@pa_cons _ _ _ _ _ (pv 6) pa_nil (by rfl)) (by rfl))) rfl)
     (@pss_one _ _ _ (ps_fld (pv 0) (pe_cmpR op_in_seq pe_str (pv 6) (by with_unfolding_all rfl)) rfl))))))))),?_⟩
   have nf:ft≠q:=ne_of hf hx (by intro z;cases z)
   have ft':∀ o,upd H q o ft=some (.tup (fs.map V.str)):=λo=>by rw [upd_ne nf];exact hf
   refine ⟨_,rfl,_,rfl,q,a.Ring,dx,[],rfl,hx,G.cl_Ring,G.na_Ring_shelf,by decide,?_⟩
   refine ⟨_,rfl,_,rfl,q,a.Ring,dx,_,rfl,upd_same,G.cl_Ring,G.na_Ring_side,by show 1 < 1000;decide,?_⟩
   rw [upd_upd]
   refine ⟨_,rfl,wa,_,_,_,rfl,rfl,hw _,rfl,_,rfl,q,a.Ring,dx,_,rfl,upd_same,G.cl_Ring,G.na_Ring_word,by show 2 < 1000;decide,?_⟩
   rw [upd_upd]
   refine ⟨_,rfl,wa,_,_,_,rfl,rfl,hw _,rfl,_,rfl,q,a.Ring,dx,_,rfl,upd_same,G.cl_Ring,G.na_Ring_laid,by show 3 < 1000;decide,?_⟩
   rw [upd_upd]
   refine ⟨_,rfl,wa,_,_,_,rfl,rfl,hw _,rfl,_,rfl,q,a.Ring,dx,_,rfl,upd_same,G.cl_Ring,G.na_Ring_fetched,by show 4 < 1000;decide,?_⟩
   rw [upd_upd]
   refine ⟨_,rfl,_,rfl,q,a.Ring,dx,_,rfl,upd_same,G.cl_Ring,G.na_Ring_size,by show 5 < 1000;decide,?_⟩
   rw [upd_upd]
   refine ⟨_,rfl,_,rfl,R,ft,fs,rfl,ft' _,_,rfl,q,a.Ring,dx,_,rfl,upd_same,G.cl_Ring,G.na_Ring_rounds,by show 6 < 1000;decide,?_⟩
   rw [upd_upd]
   refine ⟨_,rfl,ft,_,rfl,.inr (SqT.of (ft' _)),rfl,strs_flat fs,_,rfl,q,a.Ring,dx,_,rfl,upd_same,G.cl_Ring,G.na_Ring_counter_first,by show 7 < 1000;decide,?_⟩
   rw [upd_upd]
   simp only [Bool.false_eq_true,if_false]
   rw [inV_str]
   refine k _ ⟨dx,upd_same⟩ λc o nc ec=>?_
   rw [upd_ne λz=>nc (List.mem_singleton.mpr z)]
   exact ec
theorem ok_filled (G:Gs K mg a d):FnOk P w K mg base CX0 3 a.Ring_filled d.Ring_filled ["self"] (sp_filled w a.Ring a.Store):=by
 have c_Store_read:FnOk P w K mg base CX0 2 _ _ _ _:=ok_read G
 have c_ahead_by:FnOk P w K mg base CX0 1 _ _ _ _:=ok_ahead G
 refine G.f_Ring_filled.ok sc_Ring_filled (λvs H Q E h=>?_) (λcdv A' outer s H vs Q E hr h=>?_)
 · obtain ⟨q,z,b,w0,w1,w2,p,M,r,A,T,rfl,_⟩:=h
   rfl
 · obtain ⟨q,z,b,w0,w1,w2,p,M,r,A,T,rfl,⟨dx,hx⟩,S,hp,o1,o2,hA,hT,k⟩:=h
   refine ⟨_,(@pss_cons _ _ _ _ _ (@ps_set _ _ 1 _ _ _ _ sc_Ring_filled.nd rfl (Or.inl rfl) (pe_meth (pe_fld (pv 0) rfl) G.cl_Store G.mt_Store_read c_Store_read (hr.mono (by decide)) G.b_Store_read .nil pass0 (@pa_cons _ _ _ _ _ (pe_fld (pv 0) rfl) (@pa_cons _ _ _ _ _ (pe_fld (pv 0) rfl) pa_nil (by rfl)) (by rfl))) (by rfl) (by first | exact .inl rfl | exact .inr rfl | assumption))
     (@pss_cons _ _ _ _ _ (@ps_set _ _ 2 _ _ _ _ sc_Ring_filled.nd rfl (Or.inl rfl) (pe_meth (pe_fld (pv 0) rfl) G.cl_Store G.mt_Store_read c_Store_read (hr.mono (by decide)) G.b_Store_read .nil pass0 (@pa_cons _ _ _ _ _ (pe_fld (pv 0) rfl) (@pa_cons _ _ _ _ _ (pe_fld (pv 0) rfl) pa_nil (by rfl)) (by rfl))) (by rfl) (by first | exact .inl rfl | exact .inr rfl | assumption))
     (@pss_one _ _ _ (@ps_ret _ _ _ _ (pe_call c_ahead_by (hr.mono (by decide)) (by rfl) G.m_ahead_by G.f_ahead_by.kp G.b_ahead_by .nil pass0 (@pa_cons _ _ _ _ _ (pv 1) (@pa_cons _ _ _ _ _ (pv 2) (@pa_cons _ _ _ _ _ (pe_fld (pv 0) rfl) (@pa_cons _ _ _ _ _ (pe_fld (pv 0) rfl) pa_nil (by rfl)) (by rfl)) (by rfl)) (by rfl))))))),?_⟩
   obtain ⟨dxs,hxs⟩:=S.ob
   refine ⟨_,rfl,fld hx G.cl_Ring G.na_Ring_shelf rF_shelf ⟨z.x,dxs,_,rfl,hxs,stF_no (by decide +kernel) (by decide +kernel),_,rfl,fld hx G.cl_Ring G.na_Ring_side rF_side ⟨_,rfl,fld hx G.cl_Ring G.na_Ring_laid rF_laid ⟨z.x,z.hd,z.rl,z.l,M,r,b,.str w1,.str w1,rfl,S,kS o1,?_⟩⟩⟩⟩
   rw [hA]
   refine ⟨_,rfl,fld hx G.cl_Ring G.na_Ring_shelf rF_shelf ⟨z.x,dxs,_,rfl,hxs,stF_no (by decide +kernel) (by decide +kernel),_,rfl,fld hx G.cl_Ring G.na_Ring_side rF_side ⟨_,rfl,fld hx G.cl_Ring G.na_Ring_fetched rF_fetched ⟨z.x,z.hd,z.rl,z.l,M,r,b,.str w2,.str w2,rfl,S,kS o2,?_⟩⟩⟩⟩
   rw [hT]
   exact ⟨_,rfl,_,rfl,_,rfl,fld hx G.cl_Ring G.na_Ring_size rF_size ⟨_,rfl,fld hx G.cl_Ring G.na_Ring_rounds rF_rounds ⟨A,T,p.s,p.R,rfl,hp.s0,hp.s8,hp.sR,k⟩⟩⟩
theorem ok_full (G:Gs K mg a d):FnOk P w K mg base CX0 4 a.Ring_is_full d.Ring_is_full ["self"] (sp_full w a.Ring a.Store):=by
 have c_Ring_filled:FnOk P w K mg base CX0 3 _ _ _ _:=ok_filled G
 refine G.f_Ring_is_full.ok sc_Ring_is_full (λvs H Q E h=>?_) (λcdv A' outer s H vs Q E hr h=>?_)
 · obtain ⟨q,z,b,w0,w1,w2,p,M,r,A,T,rfl,_⟩:=h
   rfl
 · obtain ⟨q,z,b,w0,w1,w2,p,M,r,A,T,rfl,⟨dx,hx⟩,S,hp,o1,o2,hA,hT,k⟩:=h
   refine ⟨_,(@pss_one _ _ _ (@ps_ret _ _ _ _ (pe_cmpR op_eq (pe_meth0 (pv 0) G.cl_Ring G.mt_Ring_filled c_Ring_filled (hr.mono (by decide)) G.b_Ring_filled .nil pass0) (pe_fld (pv 0) rfl) (nomark _)))),?_⟩
   refine ⟨_,rfl,q,dx,_,rfl,hx,rF_filled,q,z,b,w0,w1,w2,p,M,r,A,T,rfl,⟨dx,hx⟩,S,hp,o1,o2,hA,hT,_,rfl,fld hx G.cl_Ring G.na_Ring_size rF_size ⟨rfl,?_⟩⟩
   have e:decide (V.int ((A - T) % (p.s * p.R))=V.int p.s)=decide ((A - T) % (p.s * p.R)=p.s):=by
     rw [decide_eq_decide];exact ⟨vint_inj,λz=>by rw [z]⟩
   rw [e]
   exact k
theorem ok_placeat (G:Gs K mg a d):FnOk P w K mg base CX0 2 a.Ring_place_at d.Ring_place_at ["self","counter"] (sp_placeat a.Ring):=by
 have c_place_of:FnOk P w K mg base CX0 1 _ _ _ _:=ok_place G
 refine G.f_Ring_place_at.ok sc_Ring_place_at (λvs H Q E h=>?_) (λcdv A' outer s H vs Q E hr h=>?_)
 · obtain ⟨q,st,b,w0,w1,w2,p,A,rfl,_⟩:=h
   rfl
 · obtain ⟨q,st,b,w0,w1,w2,p,A,rfl,⟨dx,hx⟩,hp,k⟩:=h
   refine ⟨_,(@pss_one _ _ _ (@ps_ret _ _ _ _ (@pe_tup _ _ _ _ _ (@pa_cons _ _ _ _ _ (pe_fld (pv 0) rfl) (@pa_cons _ _ _ _ _ (pe_call c_place_of (hr.mono (by decide)) (by rfl) G.m_place_of G.f_place_of.kp G.b_place_of .nil pass0 (@pa_cons _ _ _ _ _ (pv 1) (@pa_cons _ _ _ _ _ (pe_fld (pv 0) rfl) pa_nil (by rfl)) (by rfl))) pa_nil (by rfl)) (by rfl))))),?_⟩
   exact ⟨_,rfl,fld hx G.cl_Ring G.na_Ring_word rF_word ⟨_,rfl,_,rfl,fld hx G.cl_Ring G.na_Ring_size rF_size ⟨A,p.s,rfl,hp.s0,l2,λt ht=>k t ht⟩⟩⟩
theorem ok_further (G:Gs K mg a d):FnOk P w K mg base CX0 2 a.Ring_write_further d.Ring_write_further ["self","cell","counter"] (sp_further w a.Ring a.Store):=by
 have c_Store_write:FnOk P w K mg base CX0 1 _ _ _ _:=ok_write G
 have c_next_counter:FnOk P w K mg base CX0 1 _ _ _ _:=ok_next G
 refine G.f_Ring_write_further.ok sc_Ring_write_further (λvs H Q E h=>?_) (λcdv A' outer s H vs Q E hr h=>?_)
 · obtain ⟨q,z,b,w0,w1,w2,p,M,r,A,cv,ke,rfl,_⟩:=h
   rfl
 · obtain ⟨q,z,b,w0,w1,w2,p,M,r,A,cv,ke,rfl,⟨dx,hx⟩,S,hp,hl,hk,k⟩:=h
   refine ⟨_,(@pss_one _ _ _ (@ps_expr _ _ _ _ (pe_meth (pe_fld (pv 0) rfl) G.cl_Store G.mt_Store_write c_Store_write (hr.mono (by decide)) G.b_Store_write .nil pass0 (@pa_cons _ _ _ _ _ (pe_fld (pv 0) rfl) (@pa_cons _ _ _ _ _ (pv 1) (@pa_cons _ _ _ _ _ (pe_call c_next_counter (hr.mono (by decide)) (by rfl) G.m_next_counter G.f_next_counter.kp G.b_next_counter .nil pass0 (@pa_cons _ _ _ _ _ (pv 2) (@pa_cons _ _ _ _ _ (pe_fld (pv 0) rfl) (@pa_cons _ _ _ _ _ (pe_fld (pv 0) rfl) pa_nil (by rfl)) (by rfl)) (by rfl))) pa_nil (by rfl)) (by rfl)) (by rfl))) (by rfl))),?_⟩
   obtain ⟨dxs,hxs⟩:=S.ob
   exact ⟨_,rfl,fld hx G.cl_Ring G.na_Ring_shelf rF_shelf ⟨z.x,dxs,_,rfl,hxs,stF_no (by decide +kernel) (by decide +kernel),_,rfl,fld hx G.cl_Ring G.na_Ring_side rF_side ⟨_,rfl,_,rfl,_,rfl,fld hx G.cl_Ring G.na_Ring_size rF_size ⟨_,rfl,fld hx G.cl_Ring G.na_Ring_rounds rF_rounds
     ⟨A,p.s,p.R,rfl,hp.s0,hp.s8,hp.sR,z.x,z.hd,z.rl,z.l,M,r,b,cv,_,ke,rfl,S,hl,hk,λH' S' kp'=>k H' S' kp'⟩⟩⟩⟩⟩
theorem ok_lay (G:Gs K mg a d):FnOk P w K mg base CX0 4 a.Ring_lay d.Ring_lay ["self","name","worth"] (sp_lay w a.Ring a.Store):=by
 have c_Store_read:FnOk P w K mg base CX0 2 _ _ _ _:=ok_read G
 have c_Store_write:FnOk P w K mg base CX0 1 _ _ _ _:=ok_write G
 have c_Ring_write_further:FnOk P w K mg base CX0 2 _ _ _ _:=ok_further G
 have c_Ring_place_at:FnOk P w K mg base CX0 2 _ _ _ _:=ok_placeat G
 refine G.f_Ring_lay.ok sc_Ring_lay (λvs H Q E h=>?_) (λcdv A' outer s H vs Q E hr h=>?_)
 · obtain ⟨q,z,b,w0,w1,w2,p,M,r,A,nm,wv,rfl,_⟩:=h
   rfl
 · obtain ⟨q,z,b,w0,w1,w2,p,M,r,A,nm,wv,rfl,⟨dx,hx⟩,S,hp,o0,o1,hl,hA,k⟩:=h
   refine ⟨_,(@pss_cons _ _ _ _ _ (@ps_set _ _ 3 _ _ _ _ sc_Ring_lay.nd rfl (Or.inl rfl) (pe_meth (pe_fld (pv 0) rfl) G.cl_Store G.mt_Store_read c_Store_read (hr.mono (by decide)) G.b_Store_read .nil pass0 (@pa_cons _ _ _ _ _ (pe_fld (pv 0) rfl) (@pa_cons _ _ _ _ _ (pe_fld (pv 0) rfl) pa_nil (by rfl)) (by rfl))) (by rfl) (by first | exact .inl rfl | exact .inr rfl | assumption))
     (@pss_cons _ _ _ _ _ (ps_if (pt_val (pe_fld (pv 0) rfl)) (@pss_one _ _ _ (@ps_expr _ _ _ _ (pe_meth (pv 0) G.cl_Ring G.mt_Ring_write_further c_Ring_write_further (hr.mono (by decide)) G.b_Ring_write_further .nil pass0 (@pa_cons _ _ _ _ _ (pe_fld (pv 0) rfl) (@pa_cons _ _ _ _ _ (pv 3) pa_nil (by rfl)) (by rfl))) (by rfl))) pss_nil)
     (@pss_cons _ _ _ _ _ (@ps_expr _ _ _ _ (pe_meth (pe_fld (pv 0) rfl) G.cl_Store G.mt_Store_write c_Store_write (hr.mono (by decide)) G.b_Store_write .nil pass0 (@pa_cons _ _ _ _ _ (pe_fld (pv 0) rfl) (@pa_cons _ _ _ _ _ (pe_meth (pv 0) G.cl_Ring G.mt_Ring_place_at c_Ring_place_at (hr.mono (by decide)) G.b_Ring_place_at .nil pass0 (@pa_cons _ _ _ _ _ (pv 3) pa_nil (by rfl))) (@pa_cons _ _ _ _ _ (@pe_tup _ _ _ _ _ (@pa_cons _ _ _ _ _ (pv 1) (@pa_cons _ _ _ _ _ (pv 2) pa_nil (by rfl)) (by rfl))) pa_nil (by rfl)) (by rfl)) (by rfl))) (by rfl))
     (@pss_one _ _ _ (ps_if (pt_not (pt_val (pe_fld (pv 0) rfl))) (@pss_one _ _ _ (@ps_expr _ _ _ _ (pe_meth (pv 0) G.cl_Ring G.mt_Ring_write_further c_Ring_write_further (hr.mono (by decide)) G.b_Ring_write_further .nil pass0 (@pa_cons _ _ _ _ _ (pe_fld (pv 0) rfl) (@pa_cons _ _ _ _ _ (pv 3) pa_nil (by rfl)) (by rfl))) (by rfl))) pss_nil))))),?_⟩
   obtain ⟨dxs,hxs⟩:=S.ob
   refine ⟨_,rfl,fld hx G.cl_Ring G.na_Ring_shelf rF_shelf ⟨z.x,dxs,_,rfl,hxs,stF_no (by decide +kernel) (by decide +kernel),_,rfl,fld hx G.cl_Ring G.na_Ring_side rF_side ⟨_,rfl,fld hx G.cl_Ring G.na_Ring_laid rF_laid ⟨z.x,z.hd,z.rl,z.l,M,r,b,.str w1,.str w1,rfl,S,kS o1,?_⟩⟩⟩⟩
   rw [hA]
   refine ⟨_,rfl,fld hx G.cl_Ring G.na_Ring_counter_first rF_first ⟨_,rfl,?_⟩⟩
   cases he:p.e with
   | true =>
     refine iteT ?_
     refine ⟨_,rfl,q,dx,_,rfl,hx,rF_further,_,rfl,fld hx G.cl_Ring G.na_Ring_laid rF_laid ⟨_,rfl,q,z,b,w0,w1,w2,p,M,r,A,.str w1,.str w1,rfl,⟨dx,hx⟩,S,hp,by omega,kS o1,λH1 S1 kp1=>?_⟩⟩
     have hx1:=kp1 _ _ (S.noI hx) hx
     obtain ⟨dx1,hs1⟩:=S1.ob
     refine ⟨_,rfl,fld hx1 G.cl_Ring G.na_Ring_shelf rF_shelf ⟨z.x,dx1,_,rfl,hs1,stF_no (by decide +kernel) (by decide +kernel),_,rfl,fld hx1 G.cl_Ring G.na_Ring_side rF_side ⟨_,rfl,q,dx,_,rfl,hx1,rF_place,_,rfl,q,z.x,b,w0,w1,w2,p,A,rfl,⟨dx,hx1⟩,hp,λt1 ht1=>⟨_,rfl,_,rfl,l2,λt2 ht2=>?_⟩⟩⟩⟩
     have e1:=same_new (o:=.tup [V.str w0,V.int (A % p.s)]) ht1
     have e2:=same_new (o:=.tup [nm,wv]) ht2
     have e12:=e1.trans e2
     have S2:=S1.same e12
     have v1:=e2 _ _ (upd_same (H:=H1) (a:=t1) (o:=.tup [V.str w0,V.int (A % p.s)]))
     have v2:=upd_same (H:=upd H1 t1 (.tup [V.str w0,V.int (A % p.s)])) (a:=t2) (o:=.tup [nm,wv])
     have n2:H t2=none:=none_kp kp1 (none_back e1 ht2) λx hx=>by
       obtain ⟨ts,e,_⟩:=S1.rw b
       rw [List.mem_singleton.mp hx,e];intro z;cases z
     have hx2:=e12 _ _ hx1
     generalize upd (upd H1 t1 (.tup [V.str w0,V.int (A % p.s)])) t2 (.tup [nm,wv])=H2 at e2 e12 S2 v1 v2 hx2 ⊢
     refine ⟨z.x,z.hd,z.rl,z.l,M,_,b,.ref t1,.ref t2,.tuple [.str w0,.int (A % p.s)],rfl,S2,by rw [setR_same,List.length_append];show _+1 < _;omega,kT o0 v1,λH3 S3 kp3=>?_⟩
     have hx3:=kp3 _ _ (S2.noI hx2) hx2
     refine ⟨_,rfl,fld hx3 G.cl_Ring G.na_Ring_counter_first rF_first ⟨_,rfl,?_⟩⟩
     rw [he]
     refine iteF ?_
     refine k t2 H3 n2 (kp3 _ _ (S2.noT v2) v2) ?_ λc o n e=>kp3 c o n (e12 _ _ (kp1 c o n e))
     rw [setR_same,setR_twice,List.append_assoc] at S3
     unfold layRow
     rw [he]
     exact S3
   | false =>
     refine iteF ?_
     refine ⟨_,rfl,fld hx G.cl_Ring G.na_Ring_shelf rF_shelf ⟨z.x,dxs,_,rfl,hxs,stF_no (by decide +kernel) (by decide +kernel),_,rfl,fld hx G.cl_Ring G.na_Ring_side rF_side ⟨_,rfl,q,dx,_,rfl,hx,rF_place,_,rfl,q,z.x,b,w0,w1,w2,p,A,rfl,⟨dx,hx⟩,hp,λt1 ht1=>⟨_,rfl,_,rfl,l2,λt2 ht2=>?_⟩⟩⟩⟩
     have e1:=same_new (o:=.tup [V.str w0,V.int (A % p.s)]) ht1
     have e2:=same_new (o:=.tup [nm,wv]) ht2
     have e12:=e1.trans e2
     have S2:=S.same e12
     have v1:=e2 _ _ (upd_same (H:=H) (a:=t1) (o:=.tup [V.str w0,V.int (A % p.s)]))
     have v2:=upd_same (H:=upd H t1 (.tup [V.str w0,V.int (A % p.s)])) (a:=t2) (o:=.tup [nm,wv])
     have n2:H t2=none:=none_back e1 ht2
     have hx2:=e12 _ _ hx
     generalize upd (upd H t1 (.tup [V.str w0,V.int (A % p.s)])) t2 (.tup [nm,wv])=H2 at e2 e12 S2 v1 v2 hx2 ⊢
     refine ⟨z.x,z.hd,z.rl,z.l,M,r,b,.ref t1,.ref t2,.tuple [.str w0,.int (A % p.s)],rfl,S2,by omega,kT o0 v1,λH3 S3 kp3=>?_⟩
     have hx3:=kp3 _ _ (S2.noI hx2) hx2
     refine ⟨_,rfl,fld hx3 G.cl_Ring G.na_Ring_counter_first rF_first ⟨_,rfl,?_⟩⟩
     rw [he]
     refine iteT ?_
     refine ⟨_,rfl,q,dx,_,rfl,hx3,rF_further,_,rfl,fld hx3 G.cl_Ring G.na_Ring_laid rF_laid ⟨_,rfl,q,z,b,w0,w1,w2,p,M,_,A,.str w1,.str w1,rfl,⟨dx,hx3⟩,S3,hp,by rw [setR_same,List.length_append];show _+1 < _;omega,kS o1,λH4 S4 kp4=>?_⟩⟩
     have v3:=kp3 _ _ (S2.noT v2) v2
     refine k t2 H4 n2 (kp4 _ _ (S3.noT v3) v3) ?_ λc o n e=>kp4 c o n (kp3 c o n (e12 _ _ e))
     rw [setR_same,setR_twice,List.append_assoc] at S4
     unfold layRow
     rw [he]
     exact S4
theorem ok_fetch (G:Gs K mg a d):FnOk P w K mg base CX0 5 a.Ring_fetch d.Ring_fetch ["self"] (sp_fetch w a.Ring a.Store):=by
 have c_Store_read:FnOk P w K mg base CX0 2 _ _ _ _:=ok_read G
 have c_Ring_filled:FnOk P w K mg base CX0 3 _ _ _ _:=ok_filled G
 have c_Ring_write_further:FnOk P w K mg base CX0 2 _ _ _ _:=ok_further G
 have c_Ring_place_at:FnOk P w K mg base CX0 2 _ _ _ _:=ok_placeat G
 refine G.f_Ring_fetch.ok sc_Ring_fetch (λvs H Q E h=>?_) (λcdv A' outer s H vs Q E hr h=>?_)
 · obtain ⟨q,z,b,w0,w1,w2,p,M,r,A,T,rfl,_⟩:=h
   rfl
 · obtain ⟨q,z,b,w0,w1,w2,p,M,r,A,T,rfl,⟨dx,hx⟩,S,hp,o0,o1,o2,hl,hA,hT,k⟩:=h
   refine ⟨_,(@pss_cons _ _ _ _ _ (ps_if (pt_cmpR op_eq (pe_meth0 (pv 0) G.cl_Ring G.mt_Ring_filled c_Ring_filled (hr.mono (by decide)) G.b_Ring_filled .nil pass0) pe_int (nomark _)) (@pss_one _ _ _ (@ps_ret _ _ _ _ pe_non)) pss_nil)
     (@pss_cons _ _ _ _ _ (@ps_set _ _ 1 _ _ _ _ sc_Ring_fetch.nd rfl (Or.inl rfl) (pe_meth (pe_fld (pv 0) rfl) G.cl_Store G.mt_Store_read c_Store_read (hr.mono (by decide)) G.b_Store_read .nil pass0 (@pa_cons _ _ _ _ _ (pe_fld (pv 0) rfl) (@pa_cons _ _ _ _ _ (pe_fld (pv 0) rfl) pa_nil (by rfl)) (by rfl))) (by rfl) (by first | exact .inl rfl | exact .inr rfl | assumption))
     (@pss_cons _ _ _ _ _ (@ps_set _ _ 2 _ _ _ _ sc_Ring_fetch.nd rfl (Or.inl rfl) (pe_meth (pe_fld (pv 0) rfl) G.cl_Store G.mt_Store_read c_Store_read (hr.mono (by decide)) G.b_Store_read .nil pass0 (@pa_cons _ _ _ _ _ (pe_fld (pv 0) rfl) (@pa_cons _ _ _ _ _ (pe_meth (pv 0) G.cl_Ring G.mt_Ring_place_at c_Ring_place_at (hr.mono (by decide)) G.b_Ring_place_at .nil pass0 (@pa_cons _ _ _ _ _ (pv 1) pa_nil (by rfl))) pa_nil (by rfl)) (by rfl))) (by rfl) (by first | exact .inl rfl | exact .inr rfl | assumption))
     (@pss_cons _ _ _ _ _ (@ps_expr _ _ _ _ (pe_meth (pv 0) G.cl_Ring G.mt_Ring_write_further c_Ring_write_further (hr.mono (by decide)) G.b_Ring_write_further .nil pass0 (@pa_cons _ _ _ _ _ (pe_fld (pv 0) rfl) (@pa_cons _ _ _ _ _ (pv 1) pa_nil (by rfl)) (by rfl))) (by rfl))
     (@pss_one _ _ _ (@ps_ret _ _ _ _ (pe_ifExp (pt_val (pe_callB call_isinst (by rfl) G.n_isinstance bt_isinstance (@pa_cons _ _ _ _ _ (pv 2) (@pa_cons _ _ _ _ _ (pe_bltn (v:=.ty "tuple") (by rfl) G.n_tuple bt_tuple rfl) pa_nil (by rfl)) (by rfl)))) (pv 2) (@pe_tup _ _ _ _ _ (@pa_cons _ _ _ _ _ pe_non (@pa_cons _ _ _ _ _ pe_non pa_nil (by rfl)) (by rfl)))))))))),?_⟩
   obtain ⟨dxs,hxs⟩:=S.ob
   refine ⟨_,rfl,q,dx,_,rfl,hx,rF_filled,q,z,b,w0,w1,w2,p,M,r,A,T,rfl,⟨dx,hx⟩,S,hp,o1,o2,hA,hT,rfl,_,rfl,?_⟩
   by_cases h0:(A - T) % (p.s * p.R)=0
   · rw [if_pos h0] at k
     rw [h0]
     exact iteDT rfl k
   rw [if_neg h0] at k
   refine iteDF (λz=>h0 (vint_inj z)) ?_
   refine ⟨_,rfl,fld hx G.cl_Ring G.na_Ring_shelf rF_shelf ⟨z.x,dxs,_,rfl,hxs,stF_no (by decide +kernel) (by decide +kernel),_,rfl,fld hx G.cl_Ring G.na_Ring_side rF_side ⟨_,rfl,fld hx G.cl_Ring G.na_Ring_fetched rF_fetched ⟨z.x,z.hd,z.rl,z.l,M,r,b,.str w2,.str w2,rfl,S,kS o2,?_⟩⟩⟩⟩
   rw [hT]
   refine ⟨_,rfl,fld hx G.cl_Ring G.na_Ring_shelf rF_shelf ⟨z.x,dxs,_,rfl,hxs,stF_no (by decide +kernel) (by decide +kernel),_,rfl,fld hx G.cl_Ring G.na_Ring_side rF_side ⟨_,rfl,q,dx,_,rfl,hx,rF_place,_,rfl,q,z.x,b,w0,w1,w2,p,T,rfl,⟨dx,hx⟩,hp,λt1 ht1=>?_⟩⟩⟩
   have e1:=same_new (o:=.tup [V.str w0,V.int (T % p.s)]) ht1
   have S1:=S.same e1
   have v1:=upd_same (H:=H) (a:=t1) (o:=.tup [V.str w0,V.int (T % p.s)])
   have hx1:=e1 _ _ hx
   generalize upd H t1 (.tup [V.str w0,V.int (T % p.s)])=H1 at e1 S1 v1 hx1 ⊢
   refine ⟨z.x,z.hd,z.rl,z.l,M,r,b,.ref t1,.tuple [.str w0,.int (T % p.s)],rfl,S1,kT o0 v1,?_⟩
   refine ⟨_,rfl,q,dx,_,rfl,hx1,rF_further,_,rfl,fld hx1 G.cl_Ring G.na_Ring_fetched rF_fetched ⟨_,rfl,q,z,b,w0,w1,w2,p,M,r,T,.str w2,.str w2,rfl,⟨dx,hx1⟩,S1,hp,hl,kS o2,λH2 S2 kp2=>?_⟩⟩
   rcases k with ⟨c,vs,e,hc,k⟩ | ⟨i,e,k⟩
   · rw [e]
     have hc2:=kp2 _ _ (S1.noT (e1 _ _ hc)) (e1 _ _ hc)
     exact ⟨_,rfl,_,_,_,true,rfl,TyOf.tup hc2,kx_tt,_,rfl,iteT ⟨_,rfl,k H2 S2 λc o n q=>kp2 c o n (e1 _ _ q)⟩⟩
   · rw [e]
     refine ⟨_,rfl,_,_,_,false,rfl,TyOf.int i,kx_it,_,rfl,iteF ⟨l2,λt ht=>?_⟩⟩
     have e3:=same_new (o:=.tup [V.non,V.non]) ht
     have n3:H t=none:=none_back e1 (none_kp kp2 ht λx hx=>by
       obtain ⟨ts,e,_⟩:=S2.rw b
       rw [List.mem_singleton.mp hx,e];intro z;cases z)
     exact k t _ n3 upd_same (S2.same e3) λc o n q=>e3 _ _ (kp2 c o n (e1 _ _ q))
end

def sp_hinit (CH CR:Addr):Sp:=λvs H Q _=>∃ (h dx st ft:Addr) (s R n:Int) (fs:List Str),vs=[.ref h,.ref st,.int s,.int R,.int n,.ref ft]/\H h=some (.ins CH dx [])/\H ft=some (.tup (fs.map V.str)) /\
 ∀ (z:HA) (H':Hp),z.h=h->H z.ra=none->H z.rb=none->H z.gd=none->Hn CH CR H' z st ⟨s,if fs.contains "round" then 1 else R,fs.contains "counter"⟩ n []->Kp [h] H H'->Q .non H'
def sp_least (CH CR:Addr):Sp:=λvs H Q _=>∃ (z:HA) (st:Addr) (p:RP) (n:Nat) (aw:List Int),vs=[.ref z.h]/\Hn CH CR H z st p n aw/\n <= 9/\Q (match least n aw with | some k=>.int k | none=>.non) H
def sp_check (w:World) (CH CR CS F N:Addr):Sp:=λvs H Q E=>∃ (z:HA) (sa:SA) (p:RP) (n:Nat) (aw:List Int) (M:List (PyData × V)) (r:Bool->List (PyData × V)) (A T:Int),vs=[.ref z.h]/\Hn CH CR H z sa.x p n aw/\sa.At w CS H M r/\p.Ok/\n <= 9 /\
 readV M (r false) (.str "asked")=.int A/\readV M (r false) (.str "taken")=.int T/\if (A - T) % (p.s * p.R)=p.s then E (.ref F) none H else match least n aw with | none=>E (.ref N) none H | some _=>Q .non H
def sp_ask (w:World) (CH CR CS F N:Addr):Sp:=λvs H Q E=>∃ (z:HA) (sa:SA) (p:RP) (n:Nat) (aw:List Int) (M:List (PyData × V)) (r:Bool->List (PyData × V)) (wv:V) (A T:Int),vs=[.ref z.h,wv]/\Hn CH CR H z sa.x p n aw/\sa.At w CS H M r/\p.Ok/\n <= 9/\aw.length < 1000/\(r false).length < 99999 /\
 readV M (r false) (.str "asked")=.int A/\readV M (r false) (.str "taken")=.int T/\if (A - T) % (p.s * p.R)=p.s then E (.ref F) none H else match least n aw with
   | none=>E (.ref N) none H
   | some nm=>∀ t H',H t=none->H' t=some (.tup [.int nm,wv])->Hn CH CR H' z sa.x p n (aw++[nm])->sa.At w CS H' M (setR r false (r false++layRow p "ask" "asked" A (.ref t)))->Kp [z.gd,sa.l false] H H'->Q (.int nm) H'
def sp_under (CH CR:Addr):Sp:=λvs H Q _=>∃ (z:HA) (st:Addr) (p:RP) (n:Int) (aw:List Int),vs=[.ref z.h]/\Hn CH CR H z st p n aw/\aw.length < 64/\∀ (l:Addr) (ns:List Int),H l=none->ns.Perm aw->ns.Pairwise (· <= ·)->Q (.ref l) (upd H l (.lst (ns.map V.int)))
def sp_collect (w:World) (CH CR CS:Addr):Sp:=λvs H Q _=>∃ (z:HA) (sa:SA) (p:RP) (n:Int) (aw:List Int) (M:List (PyData × V)) (r:Bool->List (PyData × V)) (A T:Int),vs=[.ref z.h]/\Hn CH CR H z sa.x p n aw/\sa.At w CS H M r/\p.Ok/\(r false).length < 100000 /\
 readV M (r false) (.str "answered")=.int A/\readV M (r false) (.str "handed")=.int T/\(if (A - T) % (p.s * p.R)=0 then Q .non H else
   (∃ c nm wv,readV M (r false) (.tuple [.str "answer",.int (T % p.s)])=.ref c/\H c=some (.tup [.int nm,wv])/\∀ H',Hn CH CR H' z sa.x p n (aw.filter λk=>decide (k≠nm))->sa.At w CS H' M (setR r false (r false++[(.str "handed",.int ((T+1) % (p.s * p.R)))]))->Kp [z.gd,sa.l false] H H'->Q (.ref c) H') \/
   ∃ i,readV M (r false) (.tuple [.str "answer",.int (T % p.s)])=.int i/\∀ t H',H t=none->H' t=some (.tup [.non,.non])->Hn CH CR H' z sa.x p n aw->sa.At w CS H' M (setR r false (r false++[(.str "handed",.int ((T+1) % (p.s * p.R)))]))->Kp [sa.l false] H H'->Q (.ref t) H')
section
variable {P:Program} {w:World} {K:PySem.W.Frag} {mg:Str->Option Value} {base:Heap} {a:Ad} {d:Fd}
theorem ok_hinit (G:Gs K mg a d):FnOk P w K mg base CX0 4 a.Hand__init d.Hand__init ["self","store","size","rounds","names","faults"] (sp_hinit a.Hand a.Ring):=by
 have c_Ring__init:FnOk P w K mg base CX0 2 _ _ _ _:=ok_rinit G
 refine G.f_Hand__init.ok sc_Hand__init (λvs H Q E h=>?_) (λcdv A outer s H vs Q E hr h=>?_)
 · obtain ⟨h,dx,st,ft,s,R,n,fs,rfl,_⟩:=h
   rfl
 · obtain ⟨h,dx,st,ft,s,R,n,fs,rfl,hx,hf,k⟩:=h
   refine ⟨_,(@pss_cons _ _ _ _ _ (ps_fld (pv 0) (pe_make G.k_Ring c_Ring__init (hr.mono (by decide)) (by rfl) G.m_Ring G.b_Ring__init .nil pass0 (@pa_cons _ _ _ _ _ (pv 1) (@pa_cons _ _ _ _ _ pe_int (@pa_cons _ _ _ _ _ (pe_glob (v:=.ref a.T_ASKS) (by rfl) G.m_ASKS rfl) (@pa_cons _ _ _ _ _ (pv 2) (@pa_cons _ _ _ _ _ (pv 3) (@pa_cons _ _ _ _ _ (pv 5) pa_nil (by rfl)) (by rfl)) (by rfl)) (by rfl)) (by rfl)) (by rfl))) rfl)
     (@pss_cons _ _ _ _ _ (ps_fld (pv 0) (pe_make G.k_Ring c_Ring__init (hr.mono (by decide)) (by rfl) G.m_Ring G.b_Ring__init .nil pass0 (@pa_cons _ _ _ _ _ (pv 1) (@pa_cons _ _ _ _ _ pe_int (@pa_cons _ _ _ _ _ (pe_glob (v:=.ref a.T_ANSWERS) (by rfl) G.m_ANSWERS rfl) (@pa_cons _ _ _ _ _ (pv 2) (@pa_cons _ _ _ _ _ (pv 3) (@pa_cons _ _ _ _ _ (pv 5) pa_nil (by rfl)) (by rfl)) (by rfl)) (by rfl)) (by rfl)) (by rfl))) rfl)
     (@pss_cons _ _ _ _ _ (ps_fld (pv 0) (pv 4) rfl)
     (@pss_one _ _ _ (ps_fld (pv 0) pe_dnewK rfl))))),?_⟩
   refine ⟨_,rfl,_,rfl,_,rfl,_,rfl,λra da na nda nea=>?_⟩
   refine ⟨ra,da,st,a.T_ASKS,ft,false,"ask","asked","taken",s,R,fs,rfl,upd_same,G.t_ASKS,?_,λH1 r1 kp1=>?_⟩
   · rw [upd_ne (ne_of_none hf na),upd_ne (ne_of_none hf nda)];exact hf
   have e1:Same H H1:=λc o e=>kp1 c o (λz=>ne_of_none e na (List.mem_singleton.mp z)) (by rw [upd_ne (ne_of_none e na),upd_ne (ne_of_none e nda)];exact e)
   clear kp1
   refine ⟨rfl,_,rfl,h,a.Hand,dx,[],rfl,e1 _ _ hx,G.cl_Hand,G.na_Hand_asks,by decide,?_⟩
   have n1:ra≠h:=λz=>by rw [z,hx] at na;cases na
   have hx1:=e1 _ _ hx
   have kp2:Kp [h] H (upd H1 h (.ins a.Hand dx (putF "asks" (.ref ra) []))):=λc o n e=>by rw [upd_ne λz=>n (List.mem_singleton.mpr z)];exact e1 _ _ e
   have hx2:upd H1 h (.ins a.Hand dx (putF "asks" (.ref ra) [])) h=some (.ins a.Hand dx (putF "asks" (.ref ra) [])):=upd_same
   have r2:=r1.keep (H':=upd H1 h (.ins a.Hand dx (putF "asks" (.ref ra) []))) λo e=>by rw [upd_ne n1];exact e
   have hf2:upd H1 h (.ins a.Hand dx (putF "asks" (.ref ra) [])) ft=some (.tup (fs.map V.str)):=by
     rw [upd_ne (ne_of (e1 _ _ hf) hx1 (by intro z;cases z))];exact e1 _ _ hf
   generalize upd H1 h (.ins a.Hand dx (putF "asks" (.ref ra) []))=H2 at kp2 hx2 r2 hf2 ⊢
   refine ⟨_,rfl,_,rfl,_,rfl,_,rfl,λrb db nb ndb neb=>?_⟩
   refine ⟨rb,db,st,a.T_ANSWERS,ft,false,"answer","answered","handed",s,R,fs,rfl,upd_same,G.t_ANSWERS,?_,λH3 r3 kp3=>?_⟩
   · rw [upd_ne (ne_of_none hf2 nb),upd_ne (ne_of_none hf2 ndb)];exact hf2
   have e3:Same H2 H3:=λc o e=>kp3 c o (λz=>ne_of_none e nb (List.mem_singleton.mp z)) (by rw [upd_ne (ne_of_none e nb),upd_ne (ne_of_none e ndb)];exact e)
   clear kp3
   have nbH:H rb=none:=none_kp kp2 nb λx m=>by rw [List.mem_singleton.mp m,hx2];intro z;cases z
   have n3:rb≠h:=λz=>by rw [z,hx2] at nb;cases nb
   refine ⟨rfl,_,rfl,h,a.Hand,dx,_,rfl,e3 _ _ hx2,G.cl_Hand,G.na_Hand_answers,by show 1 < 1000;decide,?_⟩
   refine ⟨_,rfl,_,rfl,h,a.Hand,dx,_,rfl,upd_same,G.cl_Hand,G.na_Hand_names,by show 2 < 1000;decide,?_⟩
   rw [upd_upd]
   refine λgd hg=>⟨_,rfl,h,a.Hand,dx,_,rfl,(by rw [upd_ne (ne_of_none upd_same hg)];exact upd_same),G.cl_Hand,G.na_Hand_going,by show 3 < 1000;decide,?_⟩
   obtain ⟨ng,hg3⟩:=up1 hg
   have gdH:H gd=none:=none_kp kp2 (none_back e3 hg3) λx m=>by rw [List.mem_singleton.mp m,hx2];intro z;cases z
   refine k ⟨h,ra,rb,gd⟩ _ rfl na nbH gdH ⟨⟨dx,upd_same⟩,(r2.keep λo e=>e3 _ _ e).keep λo e=>?_,r3.keep λo e=>?_,?_⟩ λc o nc ec=>?_
   · rw [upd_ne n1,upd_ne (ne_of_none e hg3),upd_ne n1];exact e
   · rw [upd_ne n3,upd_ne (ne_of_none e hg3),upd_ne n3];exact e
   · rw [upd_ne ng,upd_same];rfl
   · have c1:c≠h:=λz=>nc (List.mem_singleton.mpr z)
     have e4:=e3 _ _ (kp2 c o nc ec)
     rw [upd_ne c1,upd_ne (ne_of_none e4 hg3),upd_ne c1];exact e4
theorem ok_least (G:Gs K mg a d):FnOk P w K mg base CX0 1 a.Hand_least_free d.Hand_least_free ["self"] (sp_least a.Hand a.Ring):=by
 refine G.f_Hand_least_free.ok sc_Hand_least_free (λvs H Q E h=>?_) (λcdv A outer s H vs Q E hr h=>?_)
 · obtain ⟨z,st,p,n,aw,rfl,_⟩:=h
   rfl
 · obtain ⟨z,st,p,n,aw,rfl,hn,hn9,k⟩:=h
   have hu:=hu_of hr
   refine ⟨_,(@pss_cons _ _ _ _ _ (ps_for PassesOwn.never rfl (pi_range1 (by rfl) G.n_range (@pa_cons _ _ _ _ _ (pe_fld (pv 0) rfl) pa_nil (by rfl))) (pg_name (i:=1) sc_Hand_least_free.nd rfl (Or.inl rfl)) (@pss_one _ _ _ (ps_if (pt_cmp (pc_dnotin hu (pv 1) (pe_fld (pv 0) rfl))) (@pss_one _ _ _ (@ps_ret _ _ _ _ (pv 1))) pss_nil)))
     (@pss_one _ _ _ (@ps_ret _ _ _ _ pe_non))),?_⟩
   obtain ⟨dx,hx⟩:=hn.ob
   refine ⟨_,rfl,fld hx G.cl_Hand G.na_Hand_names hF_names ⟨n,rfl,by omega,by omega,?_⟩⟩
   refine for_range (n:=((n:Nat):Int).toNat) (λi σ H'=>(∃ v,σ=[some (.ref z.h),v])/\H'=H/\∀ j < i,aw.contains (j:Int)=true) ⟨⟨_,rfl⟩,rfl,λj hj=>absurd hj (by omega)⟩ ?_ ?_
   · rintro i σ H' hi ⟨⟨v,rfl⟩,rfl,hno⟩
     rw [Int.zero_add]
     refine ⟨_,rfl,_,rfl,fld hx G.cl_Hand G.na_Hand_going hF_going ⟨z.gd,_,rfl,DGet.k (k:=.inl (i:Int)) hn.go,_,rfl,?_⟩⟩
     rw [gK_val]
     cases hc:aw.contains (i:Int) with
     | false =>
       rw [least_some (by omega) hc hno] at k
       exact iteT ⟨_,rfl,k⟩
     | true =>
       refine iteF ⟨⟨_,rfl⟩,rfl,λj hj=>?_⟩
       by_cases hji:j < i
       · exact hno j hji
       · have e:j=i:=by omega
         rw [e];exact hc
   · rintro σ H' ⟨⟨v,rfl⟩,rfl,hno⟩
     rw [least_none λj hj=>hno j (by omega)] at k
     exact k
theorem ok_check (G:Gs K mg a d):FnOk P w K mg base (CXv P w) 6 a.Hand_check_ask d.Hand_check_ask ["self"] (sp_check w a.Hand a.Ring a.Store a.Full a.NoName):=by
 have c_Ring_is_full:FnOk P w K mg base CX0 4 _ _ _ _:=ok_full G
 have c_Hand_least_free:FnOk P w K mg base CX0 1 _ _ _ _:=ok_least G
 refine G.f_Hand_check_ask.okX (k:=5) sc_Hand_check_ask (λvs H Q E h=>?_) (λcdv A' outer s' H vs Q E hr hR h=>?_)
 · obtain ⟨z,sa,p,n,aw,M,r,A,T,rfl,_⟩:=h
   rfl
 · obtain ⟨z,sa,p,n,aw,M,r,A,T,rfl,hn,S,hp,n9,hA,hT,k⟩:=h
   refine ⟨_,(@pss_cons _ _ _ _ _ (ps_if (pt_val (pe_meth0 (pe_fld (pv 0) rfl) G.cl_Ring G.mt_Ring_is_full c_Ring_is_full (hr.mono (by decide)) G.b_Ring_is_full .nil pass0)) (@pss_one _ _ _ (ps_raise hR hr.hd (by rfl) G.m_Full G.xc_Full (@pa_cons _ _ _ _ _ pe_str pa_nil (by rfl)))) pss_nil)
     (@pss_one _ _ _ (ps_if (pt_cmpR op_isN (pe_meth0 (pv 0) G.cl_Hand G.mt_Hand_least_free c_Hand_least_free (hr.mono (by decide)) G.b_Hand_least_free .nil pass0) pe_non (nomark _)) (@pss_one _ _ _ (ps_raise hR hr.hd (by rfl) G.m_NoName G.xc_NoName (@pa_cons _ _ _ _ _ pe_str pa_nil (by rfl)))) pss_nil))),?_⟩
   obtain ⟨dx,hx⟩:=hn.ob
   obtain ⟨dr,hra⟩:=hn.ra
   refine ⟨_,rfl,fld hx G.cl_Hand G.na_Hand_asks hF_asks ⟨z.ra,dr,_,rfl,hra,rF_full,z.ra,sa,false,"ask","asked","taken",p,M,r,A,T,rfl,⟨dr,hra⟩,S,hp,by decide +kernel,by decide +kernel,hA,hT,_,rfl,?_⟩⟩
   by_cases hc:(A - T) % (p.s * p.R)=p.s
   · rw [if_pos hc] at k
     exact iteDT hc ⟨by show 1 <= sizeLine;decide,k⟩
   rw [if_neg hc] at k
   refine iteDF hc ?_
   refine ⟨_,rfl,z.h,dx,_,rfl,hx,hF_least,z,sa.x,p,n,aw,rfl,hn,n9,rfl,_,rfl,?_⟩
   cases hle:least n aw with
   | none =>
     rw [hle] at k
     exact iteDT rfl ⟨by show 1 <= sizeLine;decide,k⟩
   | some nm =>
     rw [hle] at k
     exact iteDF (by intro z;cases z) k
theorem ok_ask (G:Gs K mg a d):FnOk P w K mg base (CXv P w) 8 a.Hand_ask d.Hand_ask ["self","worth"] (sp_ask w a.Hand a.Ring a.Store a.Full a.NoName):=by
 have cx_Hand_check_ask:FnOk P w K mg base (CXv P w) 6 _ _ _ _:=ok_check G
 have c_Hand_least_free:FnOk P w K mg base CX0 1 _ _ _ _:=ok_least G
 have c_Ring_lay:FnOk P w K mg base CX0 4 _ _ _ _:=ok_lay G
 refine G.f_Hand_ask.okX (k:=7) sc_Hand_ask (λvs H Q E h=>?_) (λcdv A' outer s' H vs Q E hr hR h=>?_)
 · obtain ⟨z,sa,p,n,aw,M,r,wv,A,T,rfl,_⟩:=h
   rfl
 · obtain ⟨z,sa,p,n,aw,M,r,wv,A,T,rfl,hn,S,hp,n9,hal,hrl,hA,hT,k⟩:=h
   have hu:=hu_of hr
   refine ⟨_,(@pss_cons _ _ _ _ _ (@ps_expr _ _ _ _ (pe_meth0 (pv 0) G.cl_Hand G.mt_Hand_check_ask cx_Hand_check_ask (hr.mono (by decide)) G.b_Hand_check_ask .nil hR.passes) (by rfl))
     (@pss_cons _ _ _ _ _ (@ps_set _ _ 2 _ _ _ _ sc_Hand_ask.nd rfl (Or.inl rfl) (pe_meth0 (pv 0) G.cl_Hand G.mt_Hand_least_free c_Hand_least_free (hr.mono (by decide)) G.b_Hand_least_free .nil pass0) (by rfl) (by first | exact .inl rfl | exact .inr rfl | assumption))
     (@pss_cons _ _ _ _ _ (ps_dput hu (pe_fld (pv 0) rfl) (pv 2) pe_bl rfl)
     (@pss_cons _ _ _ _ _ (@ps_expr _ _ _ _ (pe_meth (pe_fld (pv 0) rfl) G.cl_Ring G.mt_Ring_lay c_Ring_lay (hr.mono (by decide)) G.b_Ring_lay .nil pass0 (@pa_cons _ _ _ _ _ (pv 2) (@pa_cons _ _ _ _ _ (pv 1) pa_nil (by rfl)) (by rfl))) (by rfl))
     (@pss_one _ _ _ (@ps_ret _ _ _ _ (pv 2))))))),?_⟩
   obtain ⟨dx,hx⟩:=hn.ob
   refine ⟨_,rfl,z.h,dx,_,rfl,hx,hF_check,z,sa,p,n,aw,M,r,A,T,rfl,hn,S,hp,n9,hA,hT,?_⟩
   by_cases hc:(A - T) % (p.s * p.R)=p.s
   · rw [if_pos hc] at k ⊢
     exact k
   rw [if_neg hc] at k ⊢
   cases hle:least n aw with
   | none=>rw [hle] at k;exact k
   | some nm =>
     rw [hle] at k
     refine ⟨_,rfl,z.h,dx,_,rfl,hx,hF_least,z,sa.x,p,n,aw,rfl,hn,n9,?_⟩
     rw [hle]
     refine ⟨_,rfl,fld hx G.cl_Hand G.na_Hand_going hF_going ⟨_,rfl,z.gd,_,rfl,DPut.k (k:=.inl nm) hn.go (Nat.lt_of_lt_of_le (by rw [gK_len];exact hal) (by decide)),?_⟩⟩
     rw [gK_put nm aw (least_free hle)]
     have n1:z.h≠z.gd:=ne_of hx hn.go (by intro z;cases z)
     have kp1:Kp [z.gd] H (upd H z.gd (.dK (gK (aw++[nm])))):=Kp.one
     have S1:=Sto.kp S kp1 (λc hc=>by rw [List.mem_singleton.mp hc];exact S.noD hn.go) (λc hc vs e=>by rw [List.mem_singleton.mp hc,hn.go] at e;cases e)
     have hn1:Hn a.Hand a.Ring (upd H z.gd (.dK (gK (aw++[nm])))) z sa.x p n (aw++[nm]):=by
       obtain ⟨d1,x1⟩:=hn.ra
       obtain ⟨d2,x2⟩:=hn.rb
       exact ⟨⟨dx,by rw [upd_ne n1];exact hx⟩,⟨d1,by rw [upd_ne (ne_of x1 hn.go (by intro z;cases z))];exact x1⟩,⟨d2,by rw [upd_ne (ne_of x2 hn.go (by intro z;cases z))];exact x2⟩,upd_same⟩
     generalize upd H z.gd (.dK (gK (aw++[nm])))=H1 at kp1 S1 hn1 ⊢
     obtain ⟨dx1,hx1⟩:=hn1.ob
     obtain ⟨dr,hra⟩:=hn1.ra
     refine ⟨_,rfl,fld hx1 G.cl_Hand G.na_Hand_asks hF_asks ⟨z.ra,dr,_,rfl,hra,rF_lay,_,rfl,_,rfl,z.ra,sa,false,"ask","asked","taken",p,M,r,A,.int nm,wv,rfl,⟨dr,hra⟩,S1,hp,by decide +kernel,by decide +kernel,hrl,hA,λt H2 n2 v2 S2 kp2=>⟨_,rfl,?_⟩⟩⟩
     refine k t H2 (none_kp kp1 n2 λx m=>by rw [List.mem_singleton.mp m,hn1.go];intro z;cases z) v2 (hn1.lists kp2 λc m=>.inl ?_) S2 λc o nc e=>?_
     · obtain ⟨ts,e,_⟩:=S1.rw false
       exact ⟨ts,by rw [List.mem_singleton.mp m];exact e⟩
     · exact kp2 c o (λm=>nc (List.mem_cons_of_mem _ m)) (kp1 c o (λm=>nc (by rw [List.mem_singleton.mp m];exact List.mem_cons_self)) e)
theorem ok_under (G:Gs K mg a d):FnOk P w K mg base CX0 1 a.Hand_under_way d.Hand_under_way ["self"] (sp_under a.Hand a.Ring):=by
 refine G.f_Hand_under_way.ok sc_Hand_under_way (λvs H Q E h=>?_) (λcdv A outer s H vs Q E hr h=>?_)
 · obtain ⟨z,st,p,n,aw,rfl,_⟩:=h
   rfl
 · obtain ⟨z,st,p,n,aw,rfl,hn,hl,k⟩:=h
   refine ⟨_,(@pss_one _ _ _ (@ps_ret _ _ _ _ (pe_callB (call_sortedD rfl) (by rfl) G.n_sorted bt_sorted (@pa_cons _ _ _ _ _ (pe_fld (pv 0) rfl) pa_nil (by rfl))))),?_⟩
   obtain ⟨dx,hx⟩:=hn.ob
   exact ⟨_,rfl,fld hx G.cl_Hand G.na_Hand_going hF_going ⟨z.gd,_,aw,rfl,hn.go,by unfold gK;rw [List.map_map];rfl,hl,λp ns hp h1 h2=>k p ns hp h1 h2⟩⟩
theorem ok_collect (G:Gs K mg a d):FnOk P w K mg base CX0 7 a.Hand_collect d.Hand_collect ["self"] (sp_collect w a.Hand a.Ring a.Store):=by
 have c_Ring_fetch:FnOk P w K mg base CX0 5 _ _ _ _:=ok_fetch G
 refine G.f_Hand_collect.ok sc_Hand_collect (λvs H Q E h=>?_) (λcdv A' outer s' H vs Q E hr h=>?_)
 · obtain ⟨z,sa,p,n,aw,M,r,A,T,rfl,_⟩:=h
   rfl
 · obtain ⟨z,sa,p,n,aw,M,r,A,T,rfl,hn,S,hp,hrl,hA,hT,k⟩:=h
   refine ⟨_,(@pss_cons _ _ _ _ _ (@ps_set _ _ 1 _ _ _ _ sc_Hand_collect.nd rfl (Or.inl rfl) (pe_meth0 (pe_fld (pv 0) rfl) G.cl_Ring G.mt_Ring_fetch c_Ring_fetch (hr.mono (by decide)) G.b_Ring_fetch .nil pass0) (by rfl) (by first | exact .inl rfl | exact .inr rfl | assumption))
     (@pss_cons _ _ _ _ _ (ps_if (pt_cmpR op_notN (pv 1) pe_non (nomark _)) (@pss_one _ _ _ (@ps_expr _ _ _ _ (pe_dpop2N (pe_fld (pv 0) rfl) (@pe_ix _ _ _ _ _ _ _ ix_tup (pv 1) pe_int (λ_ _=>rfl)) pe_non ⟨rfl,rfl,rfl,rfl⟩) (by rfl))) pss_nil)
     (@pss_one _ _ _ (@ps_ret _ _ _ _ (pv 1))))),?_⟩
   obtain ⟨dx,hx⟩:=hn.ob
   obtain ⟨dr,hrb⟩:=hn.rb
   refine ⟨_,rfl,fld hx G.cl_Hand G.na_Hand_answers hF_answers ⟨z.rb,dr,_,rfl,hrb,rF_fetch,z.rb,sa,false,"answer","answered","handed",p,M,r,A,T,rfl,⟨dr,hrb⟩,S,hp,by decide +kernel,by decide +kernel,by decide +kernel,hrl,hA,hT,?_⟩⟩
   by_cases h0:(A - T) % (p.s * p.R)=0
   · rw [if_pos h0] at k ⊢
     exact ⟨_,rfl,rfl,_,rfl,iteF ⟨_,rfl,k⟩⟩
   rw [if_neg h0] at k ⊢
   rcases k with ⟨c,nm,wv,hrd,hc,k⟩ | ⟨i,hrd,k⟩
   rotate_left
   · refine .inr ⟨i,hrd,λt H1 n1 v1 S1 kp1=>?_⟩
     have hn1:=hn.lists kp1 λc m=>.inl (by
       obtain ⟨ts,e,_⟩:=S.rw false
       exact ⟨ts,by rw [List.mem_singleton.mp m];exact e⟩)
     obtain ⟨dx1,hx1⟩:=hn1.ob
     exact ⟨_,rfl,rfl,_,rfl,iteT ⟨_,rfl,fld hx1 G.cl_Hand G.na_Hand_going hF_going ⟨z.gd,rfl,.inl ⟨_,.inl hn1.go⟩,_,rfl,t,_,_,_,rfl,rfl,SqT.of v1,rfl,_,hn1.go,.inr ⟨rfl,_,rfl,k t H1 n1 v1 hn1 S1 kp1⟩⟩⟩⟩
   refine .inl ⟨c,_,hrd,hc,λH1 S1 kp1=>?_⟩
   have hn1:=hn.lists kp1 λc m=>.inl (by
     obtain ⟨ts,e,_⟩:=S.rw false
     exact ⟨ts,by rw [List.mem_singleton.mp m];exact e⟩)
   have hc1:=kp1 _ _ (S.noT hc) hc
   obtain ⟨dx1,hx1⟩:=hn1.ob
   refine ⟨_,rfl,rfl,_,rfl,iteT ?_⟩
   refine ⟨_,rfl,fld hx1 G.cl_Hand G.na_Hand_going hF_going ⟨z.gd,rfl,.inl ⟨_,.inl hn1.go⟩,_,rfl,c,_,_,_,rfl,rfl,SqT.of hc1,rfl,_,hn1.go,.inl ⟨.inl nm,rfl,λv hv=>⟨_,rfl,?_⟩,λhv=>⟨_,rfl,?_⟩⟩⟩⟩
   · rw [gK_drop]
     refine k _ ?_ (S1.kp Kp.one (λc hc=>by rw [List.mem_singleton.mp hc];exact S1.noD hn1.go) λc hc vs e=>by rw [List.mem_singleton.mp hc,hn1.go] at e;cases e) λc o nc e=>?_
     · obtain ⟨d1,x1⟩:=hn1.ra
       obtain ⟨d2,x2⟩:=hn1.rb
       exact ⟨⟨dx1,by rw [upd_ne (ne_of hx1 hn1.go (by intro z;cases z))];exact hx1⟩,⟨d1,by rw [upd_ne (ne_of x1 hn1.go (by intro z;cases z))];exact x1⟩,⟨d2,by rw [upd_ne (ne_of x2 hn1.go (by intro z;cases z))];exact x2⟩,upd_same⟩
     · rw [upd_ne λz=>nc (by rw [z];exact List.mem_cons_self)]
       exact kp1 c o (λm=>nc (List.mem_cons_of_mem _ m)) e
   · rw [gK_val] at hv
     have hno:aw.contains nm=false:=by
       cases z:aw.contains nm with
       | false=>rfl
       | true=>rw [z] at hv;cases hv
     have ef:aw.filter (λk=>decide (k≠nm))=aw:=by
       rw [List.filter_eq_self]
       intro x hx
       refine decide_eq_true λz=>?_
       rw [z] at hx
       rw [List.contains_eq_mem,decide_eq_false_iff_not] at hno
       exact hno hx
     rw [ef] at k
     exact k H1 hn1 S1 λc o nc e=>kp1 c o (λm=>nc (List.mem_cons_of_mem _ m)) e
end

def sp_tinit (CT CR:Addr):Sp:=λvs H Q _=>∃ (h dx st ft:Addr) (s R:Int) (fs:List Str),vs=[.ref h,.ref st,.int s,.int R,.ref ft]/\H h=some (.ins CT dx [])/\H ft=some (.tup (fs.map V.str)) /\
 ∀ (z:TA') (H':Hp),z.h=h->H z.ra=none->H z.rb=none->H z.gd=none->Tn CT CR H' z st ⟨s,if fs.contains "round" then 1 else R,fs.contains "counter"⟩ []->Kp [h] H H'->Q .non H'
def sp_taske (w:World) (CT CR CS:Addr):Sp:=λvs H Q _=>∃ (z:TA') (sa:SA) (p:RP) (ts:List Int) (M:List (PyData × V)) (r:Bool->List (PyData × V)) (A T:Int),vs=[.ref z.h]/\Tn CT CR H z sa.x p ts/\sa.At w CS H M r/\p.Ok/\ts.length < 1000/\(r true).length < 100000 /\
 readV M (r true) (.str "asked")=.int A/\readV M (r true) (.str "taken")=.int T/\(if (A - T) % (p.s * p.R)=0 then Q .non H else
   (∃ c nm wv,readV M (r true) (.tuple [.str "ask",.int (T % p.s)])=.ref c/\H c=some (.tup [.int nm,wv])/\∀ H',Tn CT CR H' z sa.x p (gNext ts nm)->sa.At w CS H' M (setR r true (r true++[(.str "taken",.int ((T+1) % (p.s * p.R)))]))->Kp [z.gd,sa.l true] H H'->Q (.ref c) H') \/
   ∃ i,readV M (r true) (.tuple [.str "ask",.int (T % p.s)])=.int i/\∀ t H',H t=none->H' t=some (.tup [.non,.non])->Tn CT CR H' z sa.x p ts->sa.At w CS H' M (setR r true (r true++[(.str "taken",.int ((T+1) % (p.s * p.R)))]))->Kp [sa.l true] H H'->Q (.ref t) H')
def sp_checka (w:World) (CT CR CS F N:Addr):Sp:=λvs H Q E=>∃ (z:TA') (sa:SA) (p:RP) (ts:List Int) (M:List (PyData × V)) (r:Bool->List (PyData × V)) (A T nm:Int),vs=[.ref z.h,.int nm]/\Tn CT CR H z sa.x p ts/\sa.At w CS H M r/\p.Ok /\
 readV M (r true) (.str "answered")=.int A/\readV M (r true) (.str "handed")=.int T/\if ts.contains nm=false then E (.ref N) none H else if (A - T) % (p.s * p.R)=p.s then E (.ref F) none H else Q .non H
def sp_answer (w:World) (CT CR CS F N:Addr):Sp:=λvs H Q E=>∃ (z:TA') (sa:SA) (p:RP) (ts:List Int) (M:List (PyData × V)) (r:Bool->List (PyData × V)) (A T nm:Int) (wv:V),vs=[.ref z.h,.int nm,wv]/\Tn CT CR H z sa.x p ts/\sa.At w CS H M r/\p.Ok/\(r true).length < 99999 /\
 readV M (r true) (.str "answered")=.int A/\readV M (r true) (.str "handed")=.int T/\if ts.contains nm=false then E (.ref N) none H else if (A - T) % (p.s * p.R)=p.s then E (.ref F) none H else
   ∀ t H',H t=none->H' t=some (.tup [.int nm,wv])->Tn CT CR H' z sa.x p (ts.filter λk=>decide (k≠nm))->sa.At w CS H' M (setR r true (r true++layRow p "answer" "answered" A (.ref t)))->Kp [z.gd,sa.l true] H H'->Q .non H'
def sp_tasks (CT CR:Addr):Sp:=λvs H Q _=>∃ (z:TA') (st:Addr) (p:RP) (ts:List Int),vs=[.ref z.h]/\Tn CT CR H z st p ts/\ts.length < 64/\∀ (l:Addr) (ns:List Int),H l=none->ns.Perm ts->ns.Pairwise (· <= ·)->Q (.ref l) (upd H l (.lst (ns.map V.int)))
section
variable {P:Program} {w:World} {K:PySem.W.Frag} {mg:Str->Option Value} {base:Heap} {a:Ad} {d:Fd}
theorem ok_tinit (G:Gs K mg a d):FnOk P w K mg base CX0 4 a.Heart__init d.Heart__init ["self","store","size","rounds","faults"] (sp_tinit a.Heart a.Ring):=by
 have c_Ring__init:FnOk P w K mg base CX0 2 _ _ _ _:=ok_rinit G
 refine G.f_Heart__init.ok sc_Heart__init (λvs H Q E h=>?_) (λcdv A outer s H vs Q E hr h=>?_)
 · obtain ⟨h,dx,st,ft,s,R,fs,rfl,_⟩:=h
   rfl
 · obtain ⟨h,dx,st,ft,s,R,fs,rfl,hx,hf,k⟩:=h
   refine ⟨_,(@pss_cons _ _ _ _ _ (ps_fld (pv 0) (pe_make G.k_Ring c_Ring__init (hr.mono (by decide)) (by rfl) G.m_Ring G.b_Ring__init .nil pass0 (@pa_cons _ _ _ _ _ (pv 1) (@pa_cons _ _ _ _ _ pe_int (@pa_cons _ _ _ _ _ (pe_glob (v:=.ref a.T_ASKS) (by rfl) G.m_ASKS rfl) (@pa_cons _ _ _ _ _ (pv 2) (@pa_cons _ _ _ _ _ (pv 3) (@pa_cons _ _ _ _ _ (pv 4) pa_nil (by rfl)) (by rfl)) (by rfl)) (by rfl)) (by rfl)) (by rfl))) rfl)
     (@pss_cons _ _ _ _ _ (ps_fld (pv 0) (pe_make G.k_Ring c_Ring__init (hr.mono (by decide)) (by rfl) G.m_Ring G.b_Ring__init .nil pass0 (@pa_cons _ _ _ _ _ (pv 1) (@pa_cons _ _ _ _ _ pe_int (@pa_cons _ _ _ _ _ (pe_glob (v:=.ref a.T_ANSWERS) (by rfl) G.m_ANSWERS rfl) (@pa_cons _ _ _ _ _ (pv 2) (@pa_cons _ _ _ _ _ (pv 3) (@pa_cons _ _ _ _ _ (pv 4) pa_nil (by rfl)) (by rfl)) (by rfl)) (by rfl)) (by rfl)) (by rfl))) rfl)
     (@pss_one _ _ _ (ps_fld (pv 0) pe_dnewK rfl)))),?_⟩
   refine ⟨_,rfl,_,rfl,_,rfl,_,rfl,λra da na nda nea=>?_⟩
   refine ⟨ra,da,st,a.T_ASKS,ft,true,"ask","asked","taken",s,R,fs,rfl,upd_same,G.t_ASKS,?_,λH1 r1 kp1=>?_⟩
   · rw [upd_ne (ne_of_none hf na),upd_ne (ne_of_none hf nda)];exact hf
   have e1:Same H H1:=λc o e=>kp1 c o (λz=>ne_of_none e na (List.mem_singleton.mp z)) (by rw [upd_ne (ne_of_none e na),upd_ne (ne_of_none e nda)];exact e)
   clear kp1
   refine ⟨rfl,_,rfl,h,a.Heart,dx,[],rfl,e1 _ _ hx,G.cl_Heart,G.na_Heart_asks,by decide,?_⟩
   have n1:ra≠h:=λz=>by rw [z,hx] at na;cases na
   have hx1:=e1 _ _ hx
   have kp2:Kp [h] H (upd H1 h (.ins a.Heart dx (putF "asks" (.ref ra) []))):=λc o n e=>by rw [upd_ne λz=>n (List.mem_singleton.mpr z)];exact e1 _ _ e
   have hx2:upd H1 h (.ins a.Heart dx (putF "asks" (.ref ra) [])) h=some (.ins a.Heart dx (putF "asks" (.ref ra) [])):=upd_same
   have r2:=r1.keep (H':=upd H1 h (.ins a.Heart dx (putF "asks" (.ref ra) []))) λo e=>by rw [upd_ne n1];exact e
   have hf2:upd H1 h (.ins a.Heart dx (putF "asks" (.ref ra) [])) ft=some (.tup (fs.map V.str)):=by
     rw [upd_ne (ne_of (e1 _ _ hf) hx1 (by intro z;cases z))];exact e1 _ _ hf
   generalize upd H1 h (.ins a.Heart dx (putF "asks" (.ref ra) []))=H2 at kp2 hx2 r2 hf2 ⊢
   refine ⟨_,rfl,_,rfl,_,rfl,_,rfl,λrb db nb ndb neb=>?_⟩
   refine ⟨rb,db,st,a.T_ANSWERS,ft,true,"answer","answered","handed",s,R,fs,rfl,upd_same,G.t_ANSWERS,?_,λH3 r3 kp3=>?_⟩
   · rw [upd_ne (ne_of_none hf2 nb),upd_ne (ne_of_none hf2 ndb)];exact hf2
   have e3:Same H2 H3:=λc o e=>kp3 c o (λz=>ne_of_none e nb (List.mem_singleton.mp z)) (by rw [upd_ne (ne_of_none e nb),upd_ne (ne_of_none e ndb)];exact e)
   clear kp3
   have nbH:H rb=none:=none_kp kp2 nb λx m=>by rw [List.mem_singleton.mp m,hx2];intro z;cases z
   have n3:rb≠h:=λz=>by rw [z,hx2] at nb;cases nb
   refine ⟨rfl,_,rfl,h,a.Heart,dx,_,rfl,e3 _ _ hx2,G.cl_Heart,G.na_Heart_answers,by show 1 < 1000;decide,?_⟩
   refine λgd hg=>⟨_,rfl,h,a.Heart,dx,_,rfl,(by rw [upd_ne (ne_of_none upd_same hg)];exact upd_same),G.cl_Heart,G.na_Heart_doing,by show 2 < 1000;decide,?_⟩
   obtain ⟨ng,hg3⟩:=up1 hg
   have gdH:H gd=none:=none_kp kp2 (none_back e3 hg3) λx m=>by rw [List.mem_singleton.mp m,hx2];intro z;cases z
   refine k ⟨h,ra,rb,gd⟩ _ rfl na nbH gdH ⟨⟨dx,upd_same⟩,(r2.keep λo e=>e3 _ _ e).keep λo e=>?_,r3.keep λo e=>?_,?_⟩ λc o nc ec=>?_
   · rw [upd_ne n1,upd_ne (ne_of_none e hg3),upd_ne n1];exact e
   · rw [upd_ne n3,upd_ne (ne_of_none e hg3),upd_ne n3];exact e
   · rw [upd_ne ng,upd_same];rfl
   · have c1:c≠h:=λz=>nc (List.mem_singleton.mpr z)
     have e4:=e3 _ _ (kp2 c o nc ec)
     rw [upd_ne c1,upd_ne (ne_of_none e4 hg3),upd_ne c1];exact e4
theorem ok_taske (G:Gs K mg a d):FnOk P w K mg base CX0 7 a.Heart_take d.Heart_take ["self"] (sp_taske w a.Heart a.Ring a.Store):=by
 have c_Ring_fetch:FnOk P w K mg base CX0 5 _ _ _ _:=ok_fetch G
 refine G.f_Heart_take.ok sc_Heart_take (λvs H Q E h=>?_) (λcdv A' outer s' H vs Q E hr h=>?_)
 · obtain ⟨z,sa,p,ts,M,r,A,T,rfl,_⟩:=h
   rfl
 · obtain ⟨z,sa,p,ts,M,r,A,T,rfl,hn,S,hp,htl,hrl,hA,hT,k⟩:=h
   have hu:=hu_of hr
   refine ⟨_,(@pss_cons _ _ _ _ _ (@ps_set _ _ 1 _ _ _ _ sc_Heart_take.nd rfl (Or.inl rfl) (pe_meth0 (pe_fld (pv 0) rfl) G.cl_Ring G.mt_Ring_fetch c_Ring_fetch (hr.mono (by decide)) G.b_Ring_fetch .nil pass0) (by rfl) (by first | exact .inl rfl | exact .inr rfl | assumption))
     (@pss_cons _ _ _ _ _ (ps_if ((pw_and (pt_cmpR op_notN (pv 1) pe_non (nomark _)) (pw_and1 (pt_cmpR op_notN (@pe_ix _ _ _ _ _ _ _ ix_tup (pv 1) pe_int (λ_ _=>rfl)) pe_non (nomark _))))).pt (@pss_one _ _ _ (ps_dput hu (pe_fld (pv 0) rfl) (@pe_ix _ _ _ _ _ _ _ ix_tup (pv 1) pe_int (λ_ _=>rfl)) pe_bl rfl)) pss_nil)
     (@pss_one _ _ _ (@ps_ret _ _ _ _ (pv 1))))),?_⟩
   obtain ⟨dx,hx⟩:=hn.ob
   obtain ⟨dr,hra⟩:=hn.ra
   refine ⟨_,rfl,fld hx G.cl_Heart G.na_Heart_asks tF_asks ⟨z.ra,dr,_,rfl,hra,rF_fetch,z.ra,sa,true,"ask","asked","taken",p,M,r,A,T,rfl,⟨dr,hra⟩,S,hp,by decide +kernel,by decide +kernel,by decide +kernel,hrl,hA,hT,?_⟩⟩
   by_cases h0:(A - T) % (p.s * p.R)=0
   · rw [if_pos h0] at k ⊢
     exact ⟨_,rfl,rfl,_,rfl,iteF ⟨_,rfl,k⟩⟩
   rw [if_neg h0] at k ⊢
   rcases k with ⟨c,nm,wv,hrd,hc,k⟩ | ⟨i,hrd,k⟩
   · refine .inl ⟨c,_,hrd,hc,λH1 S1 kp1=>?_⟩
     have hn1:=hn.lists kp1 λc m=>.inl (by
       obtain ⟨ts,e,_⟩:=S.rw true
       exact ⟨ts,by rw [List.mem_singleton.mp m];exact e⟩)
     have hc1:=kp1 _ _ (S.noT hc) hc
     obtain ⟨dx1,hx1⟩:=hn1.ob
     refine ⟨_,rfl,rfl,_,rfl,iteT ⟨_,rfl,c,_,_,_,rfl,rfl,SqT.of hc1,rfl,rfl,_,rfl,iteT ?_⟩⟩
     refine ⟨_,rfl,fld hx1 G.cl_Heart G.na_Heart_doing tF_doing ⟨_,rfl,c,_,_,_,rfl,rfl,SqT.of hc1,rfl,z.gd,_,rfl,DPut.k (k:=.inl nm) hn1.go (Nat.lt_of_lt_of_le (by rw [gK_len];exact htl) (by decide)),_,rfl,?_⟩⟩
     rw [gK_next]
     refine k _ ?_ (S1.kp Kp.one (λc hc=>by rw [List.mem_singleton.mp hc];exact S1.noD hn1.go) λc hc vs e=>by rw [List.mem_singleton.mp hc,hn1.go] at e;cases e) λc o nc e=>?_
     · obtain ⟨d1,x1⟩:=hn1.ra
       obtain ⟨d2,x2⟩:=hn1.rb
       exact ⟨⟨dx1,by rw [upd_ne (ne_of hx1 hn1.go (by intro z;cases z))];exact hx1⟩,⟨d1,by rw [upd_ne (ne_of x1 hn1.go (by intro z;cases z))];exact x1⟩,⟨d2,by rw [upd_ne (ne_of x2 hn1.go (by intro z;cases z))];exact x2⟩,upd_same⟩
     · rw [upd_ne λz=>nc (by rw [z];exact List.mem_cons_self)]
       exact kp1 c o (λm=>nc (List.mem_cons_of_mem _ m)) e
   · refine .inr ⟨i,hrd,λt H1 n1 v1 S1 kp1=>?_⟩
     have hn1:=hn.lists kp1 λc m=>.inl (by
       obtain ⟨ts,e,_⟩:=S.rw true
       exact ⟨ts,by rw [List.mem_singleton.mp m];exact e⟩)
     exact ⟨_,rfl,rfl,_,rfl,iteT ⟨_,rfl,t,_,_,_,rfl,rfl,SqT.of v1,rfl,rfl,_,rfl,iteF ⟨_,rfl,k t H1 n1 v1 hn1 S1 kp1⟩⟩⟩
theorem ok_checka (G:Gs K mg a d):FnOk P w K mg base (CXv P w) 6 a.Heart_check_answer d.Heart_check_answer ["self","name"] (sp_checka w a.Heart a.Ring a.Store a.Full a.NoTask):=by
 have c_Ring_is_full:FnOk P w K mg base CX0 4 _ _ _ _:=ok_full G
 refine G.f_Heart_check_answer.okX (k:=5) sc_Heart_check_answer (λvs H Q E h=>?_) (λcdv A' outer s' H vs Q E hr hR h=>?_)
 · obtain ⟨z,sa,p,ts,M,r,A,T,nm,rfl,_⟩:=h
   rfl
 · obtain ⟨z,sa,p,ts,M,r,A,T,nm,rfl,hn,S,hp,hA,hT,k⟩:=h
   have hu:=hu_of hr
   refine ⟨_,(@pss_cons _ _ _ _ _ (ps_if (pt_cmp (pc_dnotin hu (pv 1) (pe_fld (pv 0) rfl))) (@pss_one _ _ _ (ps_raise hR hr.hd (by rfl) G.m_NoTask G.xc_NoTask (@pa_cons _ _ _ _ _ pe_str pa_nil (by rfl)))) pss_nil)
     (@pss_one _ _ _ (ps_if (pt_val (pe_meth0 (pe_fld (pv 0) rfl) G.cl_Ring G.mt_Ring_is_full c_Ring_is_full (hr.mono (by decide)) G.b_Ring_is_full .nil pass0)) (@pss_one _ _ _ (ps_raise hR hr.hd (by rfl) G.m_Full G.xc_Full (@pa_cons _ _ _ _ _ pe_str pa_nil (by rfl)))) pss_nil))),?_⟩
   obtain ⟨dx,hx⟩:=hn.ob
   obtain ⟨dr,hrb⟩:=hn.rb
   refine ⟨_,rfl,_,rfl,fld hx G.cl_Heart G.na_Heart_doing tF_doing ⟨z.gd,_,rfl,DGet.k (k:=.inl nm) hn.go,_,rfl,?_⟩⟩
   rw [gK_val]
   cases hc:ts.contains nm with
   | false =>
     rw [if_pos hc] at k
     exact iteT ⟨by show 1 <= sizeLine;decide,k⟩
   | true =>
     rw [if_neg (by rw [hc];decide)] at k
     refine iteF ?_
     refine ⟨_,rfl,fld hx G.cl_Heart G.na_Heart_answers tF_answers ⟨z.rb,dr,_,rfl,hrb,rF_full,z.rb,sa,true,"answer","answered","handed",p,M,r,A,T,rfl,⟨dr,hrb⟩,S,hp,by decide +kernel,by decide +kernel,hA,hT,_,rfl,?_⟩⟩
     by_cases hf:(A - T) % (p.s * p.R)=p.s
     · rw [if_pos hf] at k
       exact iteDT hf ⟨by show 1 <= sizeLine;decide,k⟩
     · rw [if_neg hf] at k
       exact iteDF hf k
theorem ok_answer (G:Gs K mg a d):FnOk P w K mg base (CXv P w) 8 a.Heart_answer d.Heart_answer ["self","name","worth"] (sp_answer w a.Heart a.Ring a.Store a.Full a.NoTask):=by
 have cx_Heart_check_answer:FnOk P w K mg base (CXv P w) 6 _ _ _ _:=ok_checka G
 have c_Ring_lay:FnOk P w K mg base CX0 4 _ _ _ _:=ok_lay G
 refine G.f_Heart_answer.okX (k:=7) sc_Heart_answer (λvs H Q E h=>?_) (λcdv A' outer s' H vs Q E hr hR h=>?_)
 · obtain ⟨z,sa,p,ts,M,r,A,T,nm,wv,rfl,_⟩:=h
   rfl
 · obtain ⟨z,sa,p,ts,M,r,A,T,nm,wv,rfl,hn,S,hp,hrl,hA,hT,k⟩:=h
   refine ⟨_,(@pss_cons _ _ _ _ _ (@ps_expr _ _ _ _ (pe_meth (pv 0) G.cl_Heart G.mt_Heart_check_answer cx_Heart_check_answer (hr.mono (by decide)) G.b_Heart_check_answer .nil hR.passes (@pa_cons _ _ _ _ _ (pv 1) pa_nil (by rfl))) (by rfl))
     (@pss_cons _ _ _ _ _ (@ps_expr _ _ _ _ (pe_meth (pe_fld (pv 0) rfl) G.cl_Ring G.mt_Ring_lay c_Ring_lay (hr.mono (by decide)) G.b_Ring_lay .nil pass0 (@pa_cons _ _ _ _ _ (pv 1) (@pa_cons _ _ _ _ _ (pv 2) pa_nil (by rfl)) (by rfl))) (by rfl))
     (@pss_one _ _ _ (@ps_expr _ _ _ _ (pe_dpop1 (pe_fld (pv 0) rfl) (pv 1) ⟨rfl,rfl,rfl,rfl⟩) (by rfl))))),?_⟩
   obtain ⟨dx,hx⟩:=hn.ob
   obtain ⟨dr,hrb⟩:=hn.rb
   refine ⟨_,rfl,z.h,dx,_,rfl,hx,tF_check,_,rfl,z,sa,p,ts,M,r,A,T,nm,rfl,hn,S,hp,hA,hT,?_⟩
   by_cases hc:ts.contains nm=false
   · rw [if_pos hc] at k ⊢
     exact k
   rw [if_neg hc] at k ⊢
   by_cases hf:(A - T) % (p.s * p.R)=p.s
   · rw [if_pos hf] at k ⊢
     exact k
   rw [if_neg hf] at k ⊢
   refine ⟨_,rfl,fld hx G.cl_Heart G.na_Heart_answers tF_answers ⟨z.rb,dr,_,rfl,hrb,rF_lay,_,rfl,_,rfl,z.rb,sa,true,"answer","answered","handed",p,M,r,A,.int nm,wv,rfl,⟨dr,hrb⟩,S,hp,by decide +kernel,by decide +kernel,hrl,hA,λt H1 n1 v1 S1 kp1=>?_⟩⟩
   have hn1:=hn.lists kp1 λc m=>.inl (by
     obtain ⟨ts,e,_⟩:=S.rw true
     exact ⟨ts,by rw [List.mem_singleton.mp m];exact e⟩)
   obtain ⟨dx1,hx1⟩:=hn1.ob
   have hv:valV (gK ts) (.inl nm)=some (.bl true):=by
     rw [gK_val]
     cases y:ts.contains nm with
     | true=>rfl
     | false=>exact absurd y hc
   refine ⟨_,rfl,fld hx1 G.cl_Heart G.na_Heart_doing tF_doing ⟨z.gd,rfl,.inl ⟨_,.inl hn1.go⟩,_,rfl,_,.inl nm,_,hn1.go,rfl,hv,?_⟩⟩
   rw [gK_drop]
   refine k t _ n1 ?_ ?_ (S1.kp Kp.one (λc hc=>by rw [List.mem_singleton.mp hc];exact S1.noD hn1.go) λc hc vs e=>by rw [List.mem_singleton.mp hc,hn1.go] at e;cases e) λc o nc e=>?_
   · rw [upd_ne (ne_of v1 hn1.go (by intro z;cases z))];exact v1
   · obtain ⟨d1,x1⟩:=hn1.ra
     obtain ⟨d2,x2⟩:=hn1.rb
     exact ⟨⟨dx1,by rw [upd_ne (ne_of hx1 hn1.go (by intro z;cases z))];exact hx1⟩,⟨d1,by rw [upd_ne (ne_of x1 hn1.go (by intro z;cases z))];exact x1⟩,⟨d2,by rw [upd_ne (ne_of x2 hn1.go (by intro z;cases z))];exact x2⟩,upd_same⟩
   · rw [upd_ne λz=>nc (by rw [z];exact List.mem_cons_self)]
     exact kp1 c o (λm=>nc (List.mem_cons_of_mem _ m)) e
theorem ok_tasks (G:Gs K mg a d):FnOk P w K mg base CX0 1 a.Heart_tasks d.Heart_tasks ["self"] (sp_tasks a.Heart a.Ring):=by
 refine G.f_Heart_tasks.ok sc_Heart_tasks (λvs H Q E h=>?_) (λcdv A outer s H vs Q E hr h=>?_)
 · obtain ⟨z,st,p,ts,rfl,_⟩:=h
   rfl
 · obtain ⟨z,st,p,ts,rfl,hn,hl,k⟩:=h
   refine ⟨_,(@pss_one _ _ _ (@ps_ret _ _ _ _ (pe_callB (call_sortedD rfl) (by rfl) G.n_sorted bt_sorted (@pa_cons _ _ _ _ _ (pe_fld (pv 0) rfl) pa_nil (by rfl))))),?_⟩
   obtain ⟨dx,hx⟩:=hn.ob
   exact ⟨_,rfl,fld hx G.cl_Heart G.na_Heart_doing tF_doing ⟨z.gd,_,ts,rfl,hn.go,by unfold gK;rw [List.map_map];rfl,hl,λp ns hp h1 h2=>k p ns hp h1 h2⟩⟩
end

def sp_initT (w:World) (C:Addr):Sp:=λvs H Q _=>∃ x dx,vs=[.ref x]/\H x=some (.ins C dx []) /\
 ∀ (sa:SA) (H':Hp),sa.x=x->(∀ c,sa.own c->c≠x->H c=none)->StT w C H' sa Mem.zero (λ_=>[])->Kp [x] H H'->Q .non H'
def sp_writeT (w:World) (C:Addr):Sp:=λvs H Q _=>∃ (sa:SA) (m:Mem) (rs:Bool->List Wr) (b:Bool) (cv wv:V) (x:Wr),vs=[.ref sa.x,.int (sdI b),cv,wv]/\StT w C H sa m rs/\(rs b).length < 99990/\KeyV H x.key cv/\DV H x.dat wv/\x.Ok /\
 ∀ H',StT w C H' sa m (setR rs b (rs b++[x]))->Kp [sa.l b] H H'->Q .non H'
def sp_drainT (w:World) (C:Addr):Sp:=λvs H Q _=>∃ (sa:SA) (m:Mem) (rs:Bool->List Wr) (b:Bool) (x:Wr) (rest:List Wr),vs=[.ref sa.x,.int (sdI b)]/\StT w C H sa m rs/\rs b=x :: rest /\
 ∀ H',StT w C H' sa (m.put x) (setR rs b rest)->Kp [sa.l b,sa.hd] H H'->Q .non H'
def wrD (x:Wr):PyData:=.tuple [x.key,x.dat]
def sp_waitsT (w:World) (C:Addr):Sp:=λvs H Q _=>∃ (sa:SA) (m:Mem) (rs:Bool->List Wr) (b:Bool),vs=[.ref sa.x,.int (sdI b)]/\StT w C H sa m rs /\
 ∀ (p:Addr) (ts:List V),H p=none->DVs H ((rs b).map wrD) ts->Q (.ref p) (upd H p (.lst ts))
theorem wrD_rows {H:Hp}:∀ {row:List Wr} {es:List (PyData × V)},Paired (WrR H) row es->Paired (RD H) es (row.map wrD)
 | _,_,.nil=>.nil
 | x :: _,_,.cons ⟨_,hk,hd⟩ t=>.cons ⟨x.dat,by rw [hk];rfl,hd⟩ (wrD_rows t)
theorem initT {w:World} {C:Addr} {vs:List V} {H:Hp} {Q:VK} {E:XK} (h:sp_initT w C vs H Q E):sp_init w C vs H Q E:=by
 obtain ⟨x,dx,rfl,hx,k⟩:=h
 refine ⟨x,dx,rfl,hx,λhd rl l H' f1 f2 f3 S kp=>k ⟨x,hd,rl,l⟩ H' rfl (λc hc n=>?_) ⟨[],_,S,MemR.zero,λ_=>.nil⟩ kp⟩
 rcases hc with y | y | y | y | y
 · exact absurd y n
 · rw [y];exact f1
 · rw [y];exact f2
 · rw [y];exact f3 _
 · rw [y];exact f3 _
theorem drainT {w:World} {C:Addr} {vs:List V} {H:Hp} {Q:VK} {E:XK} (h:sp_drainT w C vs H Q E):sp_drain w C vs H Q E:=by
 obtain ⟨sa,m,rs,b,x,rest,rfl,⟨M,r,S,R,P⟩,hb,k⟩:=h
 have pb:=P b
 rw [hb] at pb
 cases hr:r b with
 | nil=>rw [hr] at pb;cases pb
 | cons q es =>
   rw [hr] at pb
   cases pb with
   | cons hx pt =>
     refine ⟨sa.x,sa.hd,sa.rl,sa.l,M,r,b,q.1,q.2,es,rfl,S,hr,Nat.lt_of_le_of_lt (StT.small S R) (by decide),λH' S' kp=>k H' ⟨_,_,S',?_,λc=>?_⟩ kp⟩
     all_goals
       have ht:∀ c vs,H c=some (.tup vs)->H' c=some (.tup vs):=λc vs e=>kp c _ (λmm=>by
         rcases List.mem_cons.mp mm with y | y
         · exact S.noT (b:=b) e (List.mem_singleton.mpr y)
         · obtain ⟨ee,e'⟩:=S.me.there
           rw [List.mem_singleton.mp y,e'] at e;cases e) e
     · exact (R.put hx).keep ht
     · by_cases e:c=b
       · subst e
         rw [setR_same,setR_same]
         exact Paired.mapP pt λ_ _ q=>q.keep ht
       · rw [setR_ne e,setR_ne e]
         exact Paired.mapP (P c) λ_ _ q=>q.keep ht
theorem waitsT {w:World} {C:Addr} {vs:List V} {H:Hp} {Q:VK} {E:XK} (h:sp_waitsT w C vs H Q E):sp_waits w C vs H Q E:=by
 obtain ⟨sa,m,rs,b,rfl,⟨M,r,S,R,P⟩,k⟩:=h
 exact ⟨sa.x,sa.hd,sa.rl,sa.l,M,r,b,rfl,S,λp ts hp pr=>k p ts hp (rows_dvs pr (wrD_rows (P b)))⟩
def sp_askT (w:World) (CH CR CS F N:Addr):Sp:=λvs H Q E=>∃ (z:HA) (sa:SA) (p:RP) (n:Nat) (aw:List Int) (m:Mem) (rs:Bool->List Wr) (wt:Int),vs=[.ref z.h,.int wt]/\Hn CH CR H z sa.x p n aw/\StT w CS H sa m rs/\p.Ok/\n <= 9/\aw.length < 1000/\(rs false).length < 99990 /\
 if aheadT p m (rs false) .asked .taken=p.s then E (.ref F) none H else match least n aw with
   | none=>E (.ref N) none H
   | some nm=>∀ H',Hn CH CR H' z sa.x p n (aw++[nm])->StT w CS H' sa m (setR rs false (rs false++layT p m (rs false) false .asked nm wt))->Kp [z.gd,sa.l false] H H'->Q (.int nm) H'
def sp_collectT (w:World) (CH CR CS:Addr):Sp:=λvs H Q _=>∃ (z:HA) (sa:SA) (p:RP) (n:Int) (aw:List Int) (m:Mem) (rs:Bool->List Wr),vs=[.ref z.h]/\Hn CH CR H z sa.x p n aw/\StT w CS H sa m rs/\p.Ok/\(rs false).length < 99990 /\
 (if aheadT p m (rs false) .answered .handed=0 then Q .non H else match rdP m (rs false) true (rdC m (rs false) .handed % p.s) with
   | some nw=>∀ c H',H' c=some (.tup [.int nw.1,.int nw.2])->Hn CH CR H' z sa.x p n (aw.filter λk=>decide (k≠nw.1))->StT w CS H' sa m (setR rs false (rs false++[nextT p m (rs false) .handed]))->Kp [z.gd,sa.l false] H H'->Q (.ref c) H'
   | none=>∀ c H',H' c=some (.tup [.non,.non])->Hn CH CR H' z sa.x p n aw->StT w CS H' sa m (setR rs false (rs false++[nextT p m (rs false) .handed]))->Kp [z.gd,sa.l false] H H'->Q (.ref c) H')
theorem askT {w:World} {CH CR CS F N:Addr} {vs:List V} {H:Hp} {Q:VK} {E:XK} (h:sp_askT w CH CR CS F N vs H Q E):sp_ask w CH CR CS F N vs H Q E:=by
 obtain ⟨z,sa,p,n,aw,m,rs,wt,rfl,hn,⟨M,r,S,R,P⟩,hp,n9,hal,hrl,k⟩:=h
 have hl:=pairedLen (P false)
 refine ⟨z,sa,p,n,aw,M,r,.int wt,rdC m (rs false) .asked,rdC m (rs false) .taken,rfl,hn,S,hp,n9,hal,by omega,readV_c R (P false) .asked,readV_c R (P false) .taken,?_⟩
 unfold aheadT at k
 by_cases hc:(rdC m (rs false) .asked - rdC m (rs false) .taken) % (p.s * p.R)=p.s
 · rw [if_pos hc] at k ⊢;exact k
 · rw [if_neg hc] at k ⊢
   cases hle:least n aw with
   | none=>rw [hle] at k;exact k
   | some nm =>
     rw [hle] at k
     intro t H' n2 v2 hn2 S2 kp2
     have ht:∀ c vs,H c=some (.tup vs)->H' c=some (.tup vs):=λc vs e=>kp2 c _ (λmm=>by
       rcases List.mem_cons.mp mm with y | y
       · rw [y,hn.go] at e;cases e
       · exact S.noT e y) e
     exact k H' hn2 (StT.grow R P S2 ht (lay_rows hp (by have:=least_lt hle;omega) v2)) kp2
theorem collectT {w:World} {CH CR CS:Addr} {vs:List V} {H:Hp} {Q:VK} {E:XK} (h:sp_collectT w CH CR CS vs H Q E):sp_collect w CH CR CS vs H Q E:=by
 obtain ⟨z,sa,p,n,aw,m,rs,rfl,hn,⟨M,r,S,R,P⟩,hp,hrl,k⟩:=h
 have hl:=pairedLen (P false)
 refine ⟨z,sa,p,n,aw,M,r,rdC m (rs false) .answered,rdC m (rs false) .handed,rfl,hn,S,hp,by omega,readV_c R (P false) .answered,readV_c R (P false) .handed,?_⟩
 unfold aheadT at k
 by_cases hc:(rdC m (rs false) .answered - rdC m (rs false) .handed) % (p.s * p.R)=0
 · rw [if_pos hc] at k ⊢;exact k
 · rw [if_neg hc] at k ⊢
   have ht:∀ {H':Hp} {xs:List Addr},(∀ x∈xs,x=z.gd\/x=sa.l false)->Kp xs H H'->∀ c vs,H c=some (.tup vs)->H' c=some (.tup vs):=λhx kp c vs e=>kp c _ (λmm=>by
     rcases hx c mm with y | y
     · rw [y,hn.go] at e;cases e
     · exact S.noT (b:=false) e (List.mem_singleton.mpr y)) e
   rcases readV_p R (P false) true (rdC m (rs false) .handed % p.s) with ⟨e1,e2⟩ | ⟨nm,wt,c,e1,e2,hc'⟩
   · rw [e1] at k
     refine .inr ⟨0,e2,λt H' n1 v1 hn1 S1 kp1=>k t H' v1 hn1 (StT.grow R P S1 (ht (λx mx=>.inr (List.mem_singleton.mp mx)) kp1) (.cons ⟨trivial,rfl,rfl⟩ .nil)) (kp1.mono λc mc=>List.mem_cons_of_mem _ mc)⟩
   · rw [e1] at k
     refine .inl ⟨c,nm,.int wt,e2,hc',λH' hn1 S1 kp1=>?_⟩
     have ht':=ht (λx mx=>by
       rcases List.mem_cons.mp mx with y | y
       · exact .inl y
       · exact .inr (List.mem_singleton.mp y)) kp1
     exact k c H' (ht' _ _ hc') hn1 (StT.grow R P S1 ht' (.cons ⟨trivial,rfl,rfl⟩ .nil)) kp1

def sp_takeT (w:World) (CT CR CS:Addr):Sp:=λvs H Q _=>∃ (z:TA') (sa:SA) (p:RP) (ts:List Int) (m:Mem) (rs:Bool->List Wr),vs=[.ref z.h]/\Tn CT CR H z sa.x p ts/\StT w CS H sa m rs/\p.Ok/\ts.length < 1000/\(rs true).length < 99990 /\
 (if aheadT p m (rs true) .asked .taken=0 then Q .non H else match rdP m (rs true) false (rdC m (rs true) .taken % p.s) with
   | some nw=>∀ c H',H' c=some (.tup [.int nw.1,.int nw.2])->Tn CT CR H' z sa.x p (gNext ts nw.1)->StT w CS H' sa m (setR rs true (rs true++[nextT p m (rs true) .taken]))->Kp [z.gd,sa.l true] H H'->Q (.ref c) H'
   | none=>∀ c H',H' c=some (.tup [.non,.non])->Tn CT CR H' z sa.x p ts->StT w CS H' sa m (setR rs true (rs true++[nextT p m (rs true) .taken]))->Kp [z.gd,sa.l true] H H'->Q (.ref c) H')
def sp_answerT (w:World) (CT CR CS F N:Addr):Sp:=λvs H Q E=>∃ (z:TA') (sa:SA) (p:RP) (ts:List Int) (m:Mem) (rs:Bool->List Wr) (nm wt:Int),vs=[.ref z.h,.int nm,.int wt]/\Tn CT CR H z sa.x p ts/\StT w CS H sa m rs/\p.Ok/\(rs true).length < 99990/\(∀ x∈ts,0 <= x/\x < 9) /\
 if ts.contains nm=false then E (.ref N) none H else if aheadT p m (rs true) .answered .handed=p.s then E (.ref F) none H else
   ∀ H',Tn CT CR H' z sa.x p (ts.filter λk=>decide (k≠nm))->StT w CS H' sa m (setR rs true (rs true++layT p m (rs true) true .answered nm wt))->Kp [z.gd,sa.l true] H H'->Q .non H'
theorem takeT {w:World} {CT CR CS:Addr} {vs:List V} {H:Hp} {Q:VK} {E:XK} (h:sp_takeT w CT CR CS vs H Q E):sp_taske w CT CR CS vs H Q E:=by
 obtain ⟨z,sa,p,ts,m,rs,rfl,hn,⟨M,r,S,R,P⟩,hp,htl,hrl,k⟩:=h
 have hl:=pairedLen (P true)
 refine ⟨z,sa,p,ts,M,r,rdC m (rs true) .asked,rdC m (rs true) .taken,rfl,hn,S,hp,htl,by omega,readV_c R (P true) .asked,readV_c R (P true) .taken,?_⟩
 unfold aheadT at k
 by_cases hc:(rdC m (rs true) .asked - rdC m (rs true) .taken) % (p.s * p.R)=0
 · rw [if_pos hc] at k ⊢;exact k
 · rw [if_neg hc] at k ⊢
   have ht:∀ {H':Hp} {xs:List Addr},(∀ x∈xs,x=z.gd\/x=sa.l true)->Kp xs H H'->∀ c vs,H c=some (.tup vs)->H' c=some (.tup vs):=λhx kp c vs e=>kp c _ (λmm=>by
     rcases hx c mm with y | y
     · rw [y,hn.go] at e;cases e
     · exact S.noT (b:=true) e (List.mem_singleton.mpr y)) e
   rcases readV_p R (P true) false (rdC m (rs true) .taken % p.s) with ⟨e1,e2⟩ | ⟨nm,wt,c,e1,e2,hc'⟩
   · rw [e1] at k
     refine .inr ⟨0,e2,λt H' n1 v1 hn1 S1 kp1=>k t H' v1 hn1 (StT.grow R P S1 (ht (λx mx=>.inr (List.mem_singleton.mp mx)) kp1) (.cons ⟨trivial,rfl,rfl⟩ .nil)) (kp1.mono λc mc=>List.mem_cons_of_mem _ mc)⟩
   · rw [e1] at k
     refine .inl ⟨c,nm,.int wt,e2,hc',λH' hn1 S1 kp1=>?_⟩
     have ht':=ht (λx mx=>by
       rcases List.mem_cons.mp mx with y | y
       · exact .inl y
       · exact .inr (List.mem_singleton.mp y)) kp1
     exact k c H' (ht' _ _ hc') hn1 (StT.grow R P S1 ht' (.cons ⟨trivial,rfl,rfl⟩ .nil)) kp1
theorem answerT {w:World} {CT CR CS F N:Addr} {vs:List V} {H:Hp} {Q:VK} {E:XK} (h:sp_answerT w CT CR CS F N vs H Q E):sp_answer w CT CR CS F N vs H Q E:=by
 obtain ⟨z,sa,p,ts,m,rs,nm,wt,rfl,hn,⟨M,r,S,R,P⟩,hp,hrl,hts,k⟩:=h
 have hl:=pairedLen (P true)
 refine ⟨z,sa,p,ts,M,r,rdC m (rs true) .answered,rdC m (rs true) .handed,nm,.int wt,rfl,hn,S,hp,by omega,readV_c R (P true) .answered,readV_c R (P true) .handed,?_⟩
 unfold aheadT at k
 by_cases h0:ts.contains nm=false
 · rw [if_pos h0] at k ⊢;exact k
 rw [if_neg h0] at k ⊢
 by_cases hc:(rdC m (rs true) .answered - rdC m (rs true) .handed) % (p.s * p.R)=p.s
 · rw [if_pos hc] at k ⊢;exact k
 · rw [if_neg hc] at k ⊢
   intro t H' n2 v2 hn2 S2 kp2
   have ht:∀ c vs,H c=some (.tup vs)->H' c=some (.tup vs):=λc vs e=>kp2 c _ (λmm=>by
     rcases List.mem_cons.mp mm with y | y
     · rw [y,hn.go] at e;cases e
     · exact S.noT e y) e
   exact k H' hn2 (StT.grow R P S2 ht (lay_rows hp (hts nm (by
     cases y:ts.contains nm with
     | false=>exact absurd y h0
     | true=>rw [List.contains_eq_mem] at y;exact of_decide_eq_true y)) v2)) kp2

theorem lay_len {p:RP} {m:Mem} {row:List Wr} {g:Bool} {a:Cn} {nm wt:Int}:(layT p m row g a nm wt).length=2:=by
 unfold layT;cases p.e<;>rfl
theorem layStr {t:Str} (h:PyData.strOk t=true):LayD (.str t):=⟨h,by show 0 <= 16;decide⟩
end My
namespace L2
open PySem PySem.Spec PyProof.Rows
theorem MemR.putAll {H:Hp}:∀ {row:List Wr} {es M:List (PyData × V)} {m:Mem},MemR H M m->Paired (WrR H) row es->MemR H (drainAll M es) (m.putAll row)
 | _,_,_,_,R,.nil=>R
 | _,_,_,_,R,.cons hx t=>by
   have h:=MemR.putAll (R.put hx) t
   exact h
end L2
namespace My
open PySem L2
def sp_fenceT (w:World) (C:Addr):Sp:=λvs H Q _=>∃ (sa:SA) (m:Mem) (rs:Bool->List Wr) (b:Bool),vs=[.ref sa.x,.int (sdI b)]/\StT w C H sa m rs/\(rs b).length < 99000 /\
 ∀ H',StT w C H' sa (m.putAll (rs b)) (setR rs b [])->Kp [sa.l b,sa.hd] H H'->Q .non H'
theorem fenceT {w:World} {C:Addr} {vs:List V} {H:Hp} {Q:VK} {E:XK} (h:sp_fenceT w C vs H Q E):sp_fence w C vs H Q E:=by
 obtain ⟨sa,m,rs,b,rfl,⟨M,r,S,R,P⟩,hl,k⟩:=h
 have hl':=pairedLen (P b)
 have hM:=StT.small S R
 refine ⟨sa.x,sa.hd,sa.rl,sa.l,M,r,b,rfl,S,by omega,λH' S' kp=>k H' ?_ kp⟩
 have ht:∀ c vs,H c=some (.tup vs)->H' c=some (.tup vs):=λc vs e=>kp c _ (λmm=>by
   rcases List.mem_cons.mp mm with y | y
   · exact S.noT (b:=b) e (List.mem_singleton.mpr y)
   · obtain ⟨ee,e'⟩:=S.me.there
     rw [List.mem_singleton.mp y,e'] at e;cases e) e
 refine ⟨_,_,S',(R.putAll (P b)).keep ht,λc=>?_⟩
 by_cases e:c=b
 · subst e
   rw [setR_same,setR_same];exact .nil
 · rw [setR_ne e,setR_ne e]
   exact Paired.mapP (P c) λ_ _ q=>q.keep ht
theorem sort_one {xs ys zs:List Int} (h1:xs.Perm zs) (h2:ys.Perm zs) (p1:xs.Pairwise (· <= ·)) (p2:ys.Pairwise (· <= ·)):xs=ys :=
 List.Perm.eq_of_pairwise (λa b _ _ h h'=>by omega) p1 p2 (h1.trans h2.symm)
theorem ints_ok (ns:List Int):LayD (.list (ns.map PyData.int))/\(PyData.list (ns.map PyData.int)).depth <= 10:=by
 obtain ⟨h1,h2⟩:=keyed_lay0 (ds:=ns.map PyData.int) λd hd=>by
   obtain ⟨x,_,rfl⟩:=List.mem_map.mp hd
   exact ⟨rfl,by show 0 <= 9;decide⟩
 exact ⟨⟨h1,by show PyData.depthAll _+1 <= 16;omega⟩,by show PyData.depthAll _+1 <= 10;omega⟩
theorem ints_dvs {H:Hp}:∀ ns:List Int,DVs H (ns.map PyData.int) (ns.map V.int)
 | []=>rfl
 | n :: ns=>⟨_,_,rfl,rfl,ints_dvs ns⟩
theorem ints_dv {H:Hp} {p:Addr} {ns:List Int} (h:H p=some (.lst (ns.map V.int))):DV H (.list (ns.map PyData.int)) (.ref p):=⟨p,_,rfl,h,ints_dvs ns⟩
theorem cut_ints {ns:List Int} {lo hi:Option Int} {hs:List V} (hh:∀ y∈hs,∃ z,y=V.int z) {y:V} (h:y∈hs++cutV (ns.map V.int) lo hi):∃ z,y=V.int z:=by
 rcases List.mem_append.mp h with h | h
 · exact hh y h
 · have h1:=List.mem_of_mem_drop (List.mem_of_mem_take h)
   obtain ⟨z,_,e⟩:=List.mem_map.mp h1
   exact ⟨z,e.symm⟩
theorem cut_lens {ns:List Int} {lo hi:Option Int} {hs:List V} (h:ns.length <= 63) (hl:hs.length <= 100):hs.length+(cutV (ns.map V.int) lo hi).length <= sizeLine:=by
 have h1:=cutV_length (ns.map V.int) lo hi
 rw [List.length_map] at h1
 have h3:200 <= sizeLine:=by decide
 omega
theorem stp_same {g:Addr} {H H1 H2:Hp} (S:Stp g H H1) (s:Same H1 H2):Stp g H H2:=⟨S.row.kp (Kp.same s []) (by simp),λc o n e=>s c o (S.keep c o n e)⟩
section
variable {H H':Hp}
end
section
variable {w:World} {CH CT CR CS:Addr} {H H':Hp} {z:HA} {zt:TA'} {sa:SA} {p:RP} {n:Nat} {m:Mem} {rs:Bool->List Wr} {un tk:List Int}
theorem x5stp (W:X5 w CH CT CR CS H z zt sa p n m rs un tk) {g:Addr} (S:Stp g H H') (R':Rw H g) (hg:¬ own5 z zt sa g):X5 w CH CT CR CS H' z zt sa p n m rs un tk :=
 W.keep (λc o h e=>S.keep c o (λy=>hg (by rw [← y];exact h)) e) (S.tups R')
end
def hideA (t:Addr) (H:Hp):Hp:=λc=>if c=t then none else H c
theorem hideA_ne {t c:Addr} {H:Hp} (h:c≠t):hideA t H c=H c:=if_neg h
theorem hideA_of {t c:Addr} {H:Hp} {o:HO} (h:hideA t H c=some o):c≠t/\H c=some o:=by
 by_cases z:c=t
 · rw [z] at h;unfold hideA at h;rw [if_pos rfl] at h;cases h
 · exact ⟨z,by rw [hideA_ne z] at h;exact h⟩
theorem hide_dv {t:Addr} {H H':Hp} (k:∀ c o,c≠t->H c=some o->H' c=some o) {d:PyData} {v:V} (h:DV (hideA t H) d v):DV (hideA t H') d v :=
 DV.mono (λb vs e=>by obtain ⟨n,e⟩:=hideA_of e;rw [hideA_ne n];exact k _ _ n e) (λb vs e=>by obtain ⟨n,e⟩:=hideA_of e;rw [hideA_ne n];exact k _ _ n e) d v h
theorem dv_hide {t:Addr} {H:Hp} {d:PyData} {v:V} (h:DV (hideA t H) d v):DV H d v :=
 DV.mono (λb vs e=>(hideA_of e).2) (λb vs e=>(hideA_of e).2) d v h
def sp_kind (F N T:Addr):Sp:=λvs H Q _=>∃ (x C:Addr) (t:Str),vs=[.ref x]/\H x=some (excO x C)/\((C=F/\t="full")\/(C=N/\t="no name")\/(C=T/\t="no task"))/\∀ H',Same H H'->Q (.str t) H'
def sp_asked5 (w:World) (CH CR CS:Addr):Sp:=λvs H Q _=>∃ (z:HA) (sa:SA) (p:RP) (n:Nat) (aw:List Int) (m:Mem) (rs:Bool->List Wr) (wt:Int),vs=[.ref z.h,.int wt]/\Hn CH CR H z sa.x p n aw/\StT w CS H sa m rs/\p.Ok/\n <= 9/\aw.length < 1000/\(rs false).length < 99990 /\
 if aheadT p m (rs false) .asked .taken=p.s then (∀ H',Same H H'->Q (.str "full") H') else match least n aw with
   | none=>∀ H',Same H H'->Q (.str "no name") H'
   | some nm=>∀ H',Hn CH CR H' z sa.x p n (aw++[nm])->StT w CS H' sa m (setR rs false (rs false++layT p m (rs false) false .asked nm wt))->Kp [z.gd,sa.l false] H H'->Q (.int nm) H'
def sp_answered5 (w:World) (CT CR CS:Addr):Sp:=λvs H Q _=>∃ (z:TA') (sa:SA) (p:RP) (ts:List Int) (m:Mem) (rs:Bool->List Wr) (nm wt:Int),vs=[.ref z.h,.int nm,.int wt]/\Tn CT CR H z sa.x p ts/\StT w CS H sa m rs/\p.Ok/\(rs true).length < 99990/\(∀ x∈ts,0 <= x/\x < 9) /\
 if ts.contains nm=false then (∀ H',Same H H'->Q (.str "no task") H') else if aheadT p m (rs true) .answered .handed=p.s then (∀ H',Same H H'->Q (.str "full") H') else
   ∀ H',Tn CT CR H' z sa.x p (ts.filter λk=>decide (k≠nm))->StT w CS H' sa m (setR rs true (rs true++layT p m (rs true) true .answered nm wt))->Kp [z.gd,sa.l true] H H'->Q .non H'
section
variable {P:Program} {w:World} {K:PySem.W.Frag} {mg:Str->Option Value} {base:Heap} {a:Ad} {d:Fd}
theorem ok_kind (G:Gs K mg a d):FnOk P w K mg base CX0 1 a.law_kind d.law_kind ["error"] (sp_kind a.Full a.NoName a.NoTask):=by
 refine G.f_law_kind.ok sc_law_kind (λvs H Q E h=>?_) (λcdv A' outer s' H vs Q E hr h=>?_)
 · obtain ⟨x,C,t,rfl,_⟩:=h
   rfl
 · obtain ⟨x,C,t,rfl,hx,hc,k⟩:=h
   have hu:=hu_of hr
   refine ⟨_,(@pss_cons _ _ _ _ _ (@ps_set _ _ 1 _ _ _ _ sc_law_kind.nd rfl (Or.inl rfl) (@pe_lst _ _ _ _ (@pa_cons _ _ _ _ _ (pe_callB call_isinstX (by rfl) G.n_isinstance bt_isinstance (@pa_cons _ _ _ _ _ (pv 0) (@pa_cons _ _ _ _ _ (pe_glob (v:=.ref a.Full) (by rfl) G.m_Full rfl) pa_nil (by rfl)) (by rfl))) (@pa_cons _ _ _ _ _ (pe_callB call_isinstX (by rfl) G.n_isinstance bt_isinstance (@pa_cons _ _ _ _ _ (pv 0) (@pa_cons _ _ _ _ _ (pe_glob (v:=.ref a.NoName) (by rfl) G.m_NoName rfl) pa_nil (by rfl)) (by rfl))) (@pa_cons _ _ _ _ _ (pe_callB call_isinstX (by rfl) G.n_isinstance bt_isinstance (@pa_cons _ _ _ _ _ (pv 0) (@pa_cons _ _ _ _ _ (pe_glob (v:=.ref a.NoTask) (by rfl) G.m_NoTask rfl) pa_nil (by rfl)) (by rfl))) pa_nil (by rfl)) (by rfl)) (by rfl))) (by rfl) (by first | exact .inl rfl | exact .inr rfl | assumption))
     (@pss_cons _ _ _ _ _ (@ps_set _ _ 1 _ _ _ _ sc_law_kind.nd rfl (Or.inl rfl) (@pe_op _ _ _ _ _ _ _ _ op_cat (pv 1) (@pe_lst _ _ _ _ (@pa_cons _ _ _ _ _ (pe_callB call_isinstX (by rfl) G.n_isinstance bt_isinstance (@pa_cons _ _ _ _ _ (pv 0) (@pa_cons _ _ _ _ _ (pe_glob (v:=.ref a.NoDeed) (by rfl) G.m_NoDeed rfl) pa_nil (by rfl)) (by rfl))) (@pa_cons _ _ _ _ _ (pe_callB call_isinstX (by rfl) G.n_isinstance bt_isinstance (@pa_cons _ _ _ _ _ (pv 0) (@pa_cons _ _ _ _ _ (pe_glob (v:=.ref a.NoRow) (by rfl) G.m_NoRow rfl) pa_nil (by rfl)) (by rfl))) pa_nil (by rfl)) (by rfl)))) (by rfl) (by first | exact .inl rfl | exact .inr rfl | assumption))
     (@pss_cons _ _ _ _ _ (ps_if ((pw_or (pt_cmpR op_ne (@pe_bm _ _ _ _ _ _ _ _ _ _ _ _ PySem.F.plainAttrs_list PySem.F.slot_list_count PySem.F.type_list_count mt_countB (pv 1) (@pa_cons _ _ _ _ _ pe_bl pa_nil (by rfl)) (by rfl) (by rfl) (by rfl) (by rfl) (by rfl)) pe_int (nomark _)) (pw_or1 (pt_not (pt_val (pe_callB call_isinstX (by rfl) G.n_isinstance bt_isinstance (@pa_cons _ _ _ _ _ (pv 0) (@pa_cons _ _ _ _ _ (pe_bltn (v:=.ty "ValueError") (by rfl) G.n_ValueError bt_ValueError rfl) pa_nil (by rfl)) (by rfl)))))))).pt (@pss_one _ _ _ (@ps_ret _ _ _ _ pe_str)) pss_nil)
     (@pss_one _ _ _ (@ps_ret _ _ _ _ (@pe_ix _ _ _ _ _ _ _ ix_list (@pe_lst _ _ _ _ (@pa_cons _ _ _ _ _ pe_str (@pa_cons _ _ _ _ _ pe_str (@pa_cons _ _ _ _ _ pe_str (@pa_cons _ _ _ _ _ pe_str (@pa_cons _ _ _ _ _ pe_str pa_nil (by rfl)) (by rfl)) (by rfl)) (by rfl)) (by rfl))) (@pe_bm _ _ _ _ _ _ _ _ _ _ _ _ PySem.F.plainAttrs_list PySem.F.slot_list_index PySem.F.type_list_index mt_indexB (pv 1) (@pa_cons _ _ _ _ _ pe_bl pa_nil (by rfl)) (by rfl) (by rfl) (by rfl) (by rfl) (by rfl)) (λ_ _=>rfl))))))),?_⟩
   obtain ⟨b1,b2,b3,xk,k1,k2,k3,k4,k5,k6,hb⟩:∃ b1 b2 b3,PySem.W.XCls K C/\PySem.W.kitOne K (.ref C) (.ref a.Full)=some b1/\PySem.W.kitOne K (.ref C) (.ref a.NoName)=some b2/\PySem.W.kitOne K (.ref C) (.ref a.NoTask)=some b3/\PySem.W.kitOne K (.ref C) (.ref a.NoDeed)=some false/\PySem.W.kitOne K (.ref C) (.ref a.NoRow)=some false/\PySem.W.kitOne K (.ref C) (.type "ValueError")=some true/\((b1,b2,b3,t)=(true,false,false,("full":Str))\/(b1,b2,b3,t)=(false,true,false,("no name":Str))\/(b1,b2,b3,t)=(false,false,true,("no task":Str))):=by
     rcases hc with ⟨rfl,rfl⟩ | ⟨rfl,rfl⟩ | ⟨rfl,rfl⟩
     · exact ⟨_,_,_,G.xk_Full,G.ki_f_Full,G.ki_f_NoName,G.ki_f_NoTask,G.ki_f_NoDeed,G.ki_f_NoRow,G.ki_f_ValueError,.inl rfl⟩
     · exact ⟨_,_,_,G.xk_NoName,G.ki_n_Full,G.ki_n_NoName,G.ki_n_NoTask,G.ki_n_NoDeed,G.ki_n_NoRow,G.ki_n_ValueError,.inr (.inl rfl)⟩
     · exact ⟨_,_,_,G.xk_NoTask,G.ki_t_Full,G.ki_t_NoName,G.ki_t_NoTask,G.ki_t_NoDeed,G.ki_t_NoRow,G.ki_t_ValueError,.inr (.inr rfl)⟩
   refine ⟨_,rfl,x,_,C,b1,rfl,hx,xk,rfl,k1,?_⟩
   refine ⟨_,rfl,x,_,C,b2,rfl,hx,xk,rfl,k2,?_⟩
   refine ⟨_,rfl,x,_,C,b3,rfl,hx,xk,rfl,k3,?_⟩
   refine ⟨by show 3 <= sizeLine;decide,λl1 h1=>?_⟩
   have e1:=same_new (o:=.lst [V.bl b1,V.bl b2,V.bl b3]) h1
   have v1:upd H l1 (.lst [V.bl b1,V.bl b2,V.bl b3]) l1=some (.lst [V.bl b1,V.bl b2,V.bl b3]):=upd_same
   generalize upd H l1 (.lst [V.bl b1,V.bl b2,V.bl b3])=H1 at e1 v1 ⊢
   refine ⟨_,rfl,_,rfl,x,_,C,false,rfl,e1 _ _ hx,xk,rfl,k4,?_⟩
   refine ⟨_,rfl,x,_,C,false,rfl,e1 _ _ hx,xk,rfl,k5,?_⟩
   refine ⟨l2,λm1 hm1=>⟨l1,m1,_,_,rfl,rfl,same_new hm1 _ _ v1,upd_same,by show 5 <= sizeLine;decide,λp1 hp1=>?_⟩⟩
   have e2:=(same_new (o:=.lst [V.bl false,V.bl false]) hm1).trans (same_new (o:=.lst ([V.bl b1,V.bl b2,V.bl b3]++[V.bl false,V.bl false])) hp1)
   have v2:upd (upd H1 m1 (.lst [V.bl false,V.bl false])) p1 (.lst ([V.bl b1,V.bl b2,V.bl b3]++[V.bl false,V.bl false])) p1=some (.lst ([b1,b2,b3,false,false].map V.bl)):=upd_same
   generalize upd (upd H1 m1 (.lst [V.bl false,V.bl false])) p1 (.lst ([V.bl b1,V.bl b2,V.bl b3]++[V.bl false,V.bl false]))=H2 at e2 v2 ⊢
   have e3:=e1.trans e2
   have c1:[b1,b2,b3,false,false].count true=1:=by rcases hb with h | h | h<;>cases h<;>rfl
   have c2:true∈[b1,b2,b3,false,false]:=by rcases hb with h | h | h<;>cases h<;>decide
   have c3:[V.str "full",V.str "no name",V.str "no task",V.str "other",V.str "other"][[b1,b2,b3,false,false].idxOf true]?=some (V.str t)/\[b1,b2,b3,false,false].idxOf true < 5:=by rcases hb with h | h | h<;>cases h<;>exact ⟨rfl,by decide⟩
   refine ⟨_,rfl,.inl ⟨rfl,_,SqL.of v2⟩,p1,[b1,b2,b3,false,false],true,rfl,rfl,v2,?_⟩
   rw [c1]
   refine ⟨rfl,_,rfl,iteN (by decide) ?_⟩
   refine ⟨_,rfl,x,_,C,true,rfl,e3 _ _ hx,xk,rfl,k6,_,rfl,iteF ?_⟩
   refine ⟨by show 5 <= sizeLine;decide,λl3 h3=>⟨_,rfl,.inl ⟨rfl,_,SqL.of (same_new h3 _ _ v2)⟩,p1,[b1,b2,b3,false,false],true,rfl,rfl,same_new h3 _ _ v2,c2,?_⟩⟩
   refine ⟨l3,_,_,_,rfl,rfl,SqL.of upd_same,?_,k _ (e3.trans (same_new h3))⟩
   exact (atI_at c3.1)
theorem ok_asked5 (G:Gs K mg a d):FnOk P w K mg base CX0 10 a.law_asked d.law_asked ["hand","worth"] (sp_asked5 w a.Hand a.Ring a.Store):=by
 have cx_Hand_ask:FnOk P w K mg base (CXv P w) 8 _ _ _ _:=(ok_ask G).imp λvs H Q E=>askT
 have c_law_kind:FnOk P w K mg base CX0 1 _ _ _ _:=ok_kind G
 refine G.f_law_asked.ok sc_law_asked (λvs H Q E h=>?_) (λcdv A' outer s' H vs Q E hr h=>?_)
 · obtain ⟨z,sa,p,n,aw,m,rs,wt,rfl,_⟩:=h
   rfl
 · obtain ⟨z,sa,p,n,aw,m,rs,wt,rfl,hn,S,hp,n9,hal,hrl,k⟩:=h
   refine ⟨_,(@pss_cons _ _ _ _ _ (@ps_set _ _ 2 _ _ _ _ sc_law_asked.nd rfl (Or.inl rfl) pe_non (by rfl) (by first | exact .inl rfl | exact .inr rfl | assumption))
     (@pss_cons _ _ _ _ _ (@ps_set _ _ 3 _ _ _ _ sc_law_asked.nd rfl (Or.inl rfl) pe_non (by rfl) (by first | exact .inl rfl | exact .inr rfl | assumption))
     (@pss_cons _ _ _ _ _ (ps_try ⟨rfl,rfl,rfl⟩ (λpins R=>by exact (@pss_one _ _ _ (@ps_set _ _ 3 _ _ _ _ sc_law_asked.nd rfl (Or.inl rfl) (pe_methX rfl (pv 0) G.cl_Hand G.mt_Hand_ask cx_Hand_ask (hr.mono (by decide)) G.b_Hand_ask .nil (@pa_cons _ _ _ _ _ (pv 1) pa_nil (by rfl))) (by rfl) (by first | exact .inl rfl | exact .inr rfl | assumption)))) (ph_as (i:=4) ⟨rfl,rfl,rfl⟩ sc_law_asked.nd rfl rfl (Or.inl rfl) (by rfl) G.m_RingError (λe=>by exact (@pss_one _ _ _ (@ps_set _ _ 2 _ _ _ _ sc_law_asked.nd rfl (Or.inl rfl) (pv 4) (by rfl) (by first | exact .inl rfl | exact .inr rfl | assumption)))) ph_nil))
     (@pss_cons _ _ _ _ _ (ps_if (pt_cmpR op_isN (pv 2) pe_non (nomark _)) (@pss_one _ _ _ (@ps_ret _ _ _ _ (pv 3))) pss_nil)
     (@pss_one _ _ _ (@ps_ret _ _ _ _ (pe_call c_law_kind (hr.mono (by decide)) (by rfl) G.m_law_kind G.f_law_kind.kp G.b_law_kind .nil pass0 (@pa_cons _ _ _ _ _ (pv 2) pa_nil (by rfl))))))))),?_⟩
   refine ⟨λσ' cls H'=>σ'=[some (.ref z.h),some (.int wt),some .non,some .non,none]/\H'=H/\∃ C t,cls=.ref C/\PySem.W.exmOne K (.ref C) (.ref a.RingError)=some true/\((C=a.Full/\t=("full":Str))\/(C=a.NoName/\t=("no name":Str))\/(C=a.NoTask/\t=("no task":Str)))/\∀ H',Same H H'->Q (.str t) H',?_,?_⟩
   · refine ⟨_,rfl,mthE hn.ob hF_ask ⟨_,rfl,z,sa,p,n,aw,m,rs,wt,rfl,hn,S,hp,n9,hal,hrl,?_⟩⟩
     by_cases hc:aheadT p m (rs false) .asked .taken=p.s
     · rw [if_pos hc] at k ⊢
       exact ⟨rfl,rfl,a.Full,_,rfl,G.em_f,.inl ⟨rfl,rfl⟩,k⟩
     · rw [if_neg hc] at k ⊢
       cases hle:least n aw with
       | none =>
         rw [hle] at k
         exact ⟨rfl,rfl,a.NoName,_,rfl,G.em_n,.inr (.inl ⟨rfl,rfl⟩),k⟩
       | some nm =>
         rw [hle] at k
         refine λH' q1 q2 q3=>?_
         exact ⟨_,rfl,rfl,_,rfl,iteC (decide_eq_true rfl) ⟨_,rfl,k H' q1 q2 q3⟩⟩
   · rintro σ' cls H' ⟨rfl,rfl,C,t,rfl,em,ht,k'⟩
     refine ⟨true,em,C,rfl,λex hex=>⟨_,rfl,?_⟩⟩
     have e1:=same_new (o:=excO ex C) hex
     exact ⟨_,rfl,rfl,_,rfl,iteN (by rw [decide_eq_true_eq];exact λy=>by cases y) ⟨_,rfl,ex,C,t,rfl,upd_same,ht,λH2 e2=>k' H2 (e1.trans e2)⟩⟩
theorem ok_answered5 (G:Gs K mg a d):FnOk P w K mg base CX0 10 a.law_answered d.law_answered ["heart","name","worth"] (sp_answered5 w a.Heart a.Ring a.Store):=by
 have cx_Heart_answer:FnOk P w K mg base (CXv P w) 8 _ _ _ _:=(ok_answer G).imp λvs H Q E=>answerT
 have c_law_kind:FnOk P w K mg base CX0 1 _ _ _ _:=ok_kind G
 refine G.f_law_answered.ok sc_law_answered (λvs H Q E h=>?_) (λcdv A' outer s' H vs Q E hr h=>?_)
 · obtain ⟨z,sa,p,ts,m,rs,nm,wt,rfl,_⟩:=h
   rfl
 · obtain ⟨z,sa,p,ts,m,rs,nm,wt,rfl,hn,S,hp,hrl,hts,k⟩:=h
   refine ⟨_,(@pss_cons _ _ _ _ _ (@ps_set _ _ 3 _ _ _ _ sc_law_answered.nd rfl (Or.inl rfl) pe_non (by rfl) (by first | exact .inl rfl | exact .inr rfl | assumption))
     (@pss_cons _ _ _ _ _ (@ps_set _ _ 4 _ _ _ _ sc_law_answered.nd rfl (Or.inl rfl) pe_non (by rfl) (by first | exact .inl rfl | exact .inr rfl | assumption))
     (@pss_cons _ _ _ _ _ (ps_try ⟨rfl,rfl,rfl⟩ (λpins R=>by exact (@pss_one _ _ _ (@ps_set _ _ 4 _ _ _ _ sc_law_answered.nd rfl (Or.inl rfl) (pe_methX rfl (pv 0) G.cl_Heart G.mt_Heart_answer cx_Heart_answer (hr.mono (by decide)) G.b_Heart_answer .nil (@pa_cons _ _ _ _ _ (pv 1) (@pa_cons _ _ _ _ _ (pv 2) pa_nil (by rfl)) (by rfl))) (by rfl) (by first | exact .inl rfl | exact .inr rfl | assumption)))) (ph_as (i:=5) ⟨rfl,rfl,rfl⟩ sc_law_answered.nd rfl rfl (Or.inl rfl) (by rfl) G.m_RingError (λe=>by exact (@pss_one _ _ _ (@ps_set _ _ 3 _ _ _ _ sc_law_answered.nd rfl (Or.inl rfl) (pv 5) (by rfl) (by first | exact .inl rfl | exact .inr rfl | assumption)))) ph_nil))
     (@pss_cons _ _ _ _ _ (ps_if (pt_cmpR op_isN (pv 3) pe_non (nomark _)) (@pss_one _ _ _ (@ps_ret _ _ _ _ (pv 4))) pss_nil)
     (@pss_one _ _ _ (@ps_ret _ _ _ _ (pe_call c_law_kind (hr.mono (by decide)) (by rfl) G.m_law_kind G.f_law_kind.kp G.b_law_kind .nil pass0 (@pa_cons _ _ _ _ _ (pv 3) pa_nil (by rfl))))))))),?_⟩
   refine ⟨λσ' cls H'=>σ'=[some (.ref z.h),some (.int nm),some (.int wt),some .non,some .non,none]/\H'=H/\∃ C t,cls=.ref C/\PySem.W.exmOne K (.ref C) (.ref a.RingError)=some true/\((C=a.Full/\t=("full":Str))\/(C=a.NoName/\t=("no name":Str))\/(C=a.NoTask/\t=("no task":Str)))/\∀ H',Same H H'->Q (.str t) H',?_,?_⟩
   · refine ⟨_,rfl,mthE hn.ob tF_answer ⟨_,rfl,_,rfl,z,sa,p,ts,m,rs,nm,wt,rfl,hn,S,hp,hrl,hts,?_⟩⟩
     by_cases h0:ts.contains nm=false
     · rw [if_pos h0] at k ⊢
       exact ⟨rfl,rfl,a.NoTask,_,rfl,G.em_t,.inr (.inr ⟨rfl,rfl⟩),k⟩
     · rw [if_neg h0] at k ⊢
       by_cases hc:aheadT p m (rs true) .answered .handed=p.s
       · rw [if_pos hc] at k ⊢
         exact ⟨rfl,rfl,a.Full,_,rfl,G.em_f,.inl ⟨rfl,rfl⟩,k⟩
       · rw [if_neg hc] at k ⊢
         exact λH' q1 q2 q3=>⟨_,rfl,rfl,_,rfl,iteC (decide_eq_true rfl) ⟨_,rfl,k H' q1 q2 q3⟩⟩
   · rintro σ' cls H' ⟨rfl,rfl,C,t,rfl,em,ht,k'⟩
     refine ⟨true,em,C,rfl,λex hex=>⟨_,rfl,?_⟩⟩
     have e1:=same_new (o:=excO ex C) hex
     exact ⟨_,rfl,rfl,_,rfl,iteN (by rw [decide_eq_true_eq];exact λy=>by cases y) ⟨_,rfl,ex,C,t,rfl,upd_same,ht,λH2 e2=>k' H2 (e1.trans e2)⟩⟩
end

theorem wrD_ok (x:Wr):MX.kd (wrD x)=true/\(wrD x).depth <= 9:=by
 refine ⟨?_,?_⟩
 · show (MX.kd x.key && (MX.kd x.dat && true))=true
   rw [x.key_kd,x.dat_kd];rfl
 · cases x with
   | c k i=>show 1 <= 9;decide
   | p g i nm wt=>show 2 <= 9;decide
theorem rows_kds:∀ row:List Wr,MX.kds (row.map wrD)=true
 | []=>rfl
 | x :: row=>by
   show (MX.kd (wrD x) && MX.kds (row.map wrD))=true
   rw [(wrD_ok x).1,rows_kds row];rfl
def seenD (rs:Bool->List Wr) (us ks:List Int):PyData:=.list [.list ((rs false).map wrD),.list ((rs true).map wrD),.list (us.map PyData.int),.list (ks.map PyData.int)]
theorem rows_lay2 (row:List Wr):PyData.canLay0 (.list (row.map wrD))=true/\(PyData.list (row.map wrD)).depth <= 9:=by
 have h:∀ {ds:List PyData},(∀ d∈ds,MX.kd d=true/\d.depth <= 8)->PyData.canLayAll0 ds=true/\PyData.depthAll ds <= 8:=by
   intro ds
   induction ds with
   | nil=>exact λ_=>⟨rfl,Nat.zero_le _⟩
   | cons d ds ih =>
     intro hh
     obtain ⟨a,b⟩:=ih λu hu=>hh u (List.mem_cons_of_mem _ hu)
     have hd:=hh d List.mem_cons_self
     refine ⟨?_,?_⟩
     · show (PyData.canLay0 d && PyData.canLayAll0 ds)=true
       rw [MX.kd_lay _ hd.1,a];rfl
     · show max d.depth (PyData.depthAll ds) <= 8
       have:=hd.2
       omega
 obtain ⟨h1,h2⟩:=h (ds:=row.map wrD) λd hd=>by
   obtain ⟨x,_,rfl⟩:=List.mem_map.mp hd
   refine ⟨(wrD_ok x).1,?_⟩
   cases x with
   | c k i=>show 1 <= 8;decide
   | p g i nm wt=>show 2 <= 8;decide
 exact ⟨h1,by show PyData.depthAll _+1 <= 9;omega⟩
theorem ints_lay2 (ns:List Int):PyData.canLay0 (.list (ns.map PyData.int))=true/\(PyData.list (ns.map PyData.int)).depth <= 9:=by
 have h:PyData.canLayAll0 (ns.map PyData.int)=true/\PyData.depthAll (ns.map PyData.int) <= 8:=by
   induction ns with
   | nil=>exact ⟨rfl,Nat.zero_le _⟩
   | cons n ns ih =>
     refine ⟨?_,?_⟩
     · show (true && PyData.canLayAll0 _)=true
       rw [ih.1];rfl
     · show max 0 (PyData.depthAll _) <= 8
       have:=ih.2
       omega
 exact ⟨h.1,by show PyData.depthAll _+1 <= 9;have:=h.2;omega⟩
theorem seen_lay (rs:Bool->List Wr) (us ks:List Int):LayD (seenD rs us ks)/\(seenD rs us ks).depth <= 10:=by
 have r1:=rows_lay2 (rs false)
 have r2:=rows_lay2 (rs true)
 have r3:=ints_lay2 us
 have r4:=ints_lay2 ks
 have hd:(seenD rs us ks).depth <= 10:=by
   show max _ (max _ (max _ (max _ 0)))+1 <= 10
   have:=r1.2;have:=r2.2;have:=r3.2;have:=r4.2
   omega
 refine ⟨⟨?_,by omega⟩,hd⟩
 show (_ && (_ && (_ && (_ && true))))=true
 rw [r1.1,r2.1,r3.1,r4.1];rfl
def sp_seen5 (w:World) (CH CT CR CS:Addr):Sp:=λvs H Q _=>∃ (g:Addr) (z:HA) (zt:TA') (sa:SA) (p:RP) (n:Nat) (m:Mem) (rs:Bool->List Wr) (un tk:List Int),vs=[.ref sa.x,.ref z.h,.ref zt.h]/\X5 w CH CT CR CS H z zt sa p n m rs un tk/\un.length < 64/\tk.length < 64/\Rw H g /\
 ∀ (us ks:List Int) (l:Addr) (H':Hp),us.Perm un->us.Pairwise (· <= ·)->ks.Perm tk->ks.Pairwise (· <= ·)->Same H H'->DV (hideA g H') (seenD rs us ks) (.ref l)->Q (.ref l) H'
section
variable {P:Program} {w:World} {K:PySem.W.Frag} {mg:Str->Option Value} {base:Heap} {a:Ad} {d:Fd}
theorem ok_seen5 (G:Gs K mg a d):FnOk P w K mg base CX0 2 a.law_seen d.law_seen ["store","hand","heart"] (sp_seen5 w a.Hand a.Heart a.Ring a.Store):=by
 have c_Store_waits:FnOk P w K mg base CX0 1 _ _ _ _:=(ok_waits G).imp λvs H Q E=>waitsT
 have c_Hand_under_way:FnOk P w K mg base CX0 1 _ _ _ _:=ok_under G
 have c_Heart_tasks:FnOk P w K mg base CX0 1 _ _ _ _:=ok_tasks G
 refine G.f_law_seen.ok sc_law_seen (λvs H Q E h=>?_) (λcdv A' outer s' H vs Q E hr h=>?_)
 · obtain ⟨g,z,zt,sa,p,n,m,rs,un,tk,rfl,_⟩:=h
   rfl
 · obtain ⟨g,z,zt,sa,p,n,m,rs,un,tk,rfl,W,hul,htl,Rg,k⟩:=h
   have hu:=hu_of hr
   refine ⟨_,(@pss_one _ _ _ (@ps_ret _ _ _ _ (@pe_lst _ _ _ _ (@pa_cons _ _ _ _ _ (pe_meth (pv 0) G.cl_Store G.mt_Store_waits c_Store_waits (hr.mono (by decide)) G.b_Store_waits .nil pass0 (@pa_cons _ _ _ _ _ pe_int pa_nil (by rfl))) (@pa_cons _ _ _ _ _ (pe_meth (pv 0) G.cl_Store G.mt_Store_waits c_Store_waits (hr.mono (by decide)) G.b_Store_waits .nil pass0 (@pa_cons _ _ _ _ _ pe_int pa_nil (by rfl))) (@pa_cons _ _ _ _ _ (pe_meth0 (pv 1) G.cl_Hand G.mt_Hand_under_way c_Hand_under_way (hr.mono (by decide)) G.b_Hand_under_way .nil pass0) (@pa_cons _ _ _ _ _ (pe_meth0 (pv 2) G.cl_Heart G.mt_Heart_tasks c_Heart_tasks (hr.mono (by decide)) G.b_Heart_tasks .nil pass0) pa_nil (by rfl)) (by rfl)) (by rfl)) (by rfl))))),?_⟩
   refine ⟨_,rfl,mthE W.st.ob (stF_no (by decide +kernel) (by decide +kernel)) ⟨sa,m,rs,false,rfl,W.st,λp0 t0 h0 d0=>?_⟩⟩
   have e0:=same_new (o:=.lst t0) h0
   have v0:upd H p0 (.lst t0) p0=some (.lst t0):=upd_same
   generalize upd H p0 (.lst t0)=H0 at e0 v0 ⊢
   have W0:=W.same e0
   refine ⟨_,rfl,mthE W0.st.ob (stF_no (by decide +kernel) (by decide +kernel)) ⟨sa,m,rs,true,rfl,W0.st,λp1 t1 h1 d1=>?_⟩⟩
   have e1:=same_new (o:=.lst t1) h1
   have v1:upd H0 p1 (.lst t1) p1=some (.lst t1):=upd_same
   generalize upd H0 p1 (.lst t1)=H1 at e1 v1 ⊢
   have W1:=W0.same e1
   refine ⟨_,rfl,mthE W1.hn.ob hF_under ⟨z,sa.x,p,_,un,rfl,W1.hn,hul,λp2 us h2 pm2 pw2=>?_⟩⟩
   have e2:=same_new (o:=.lst (us.map V.int)) h2
   have v2:upd H1 p2 (.lst (us.map V.int)) p2=some (.lst (us.map V.int)):=upd_same
   generalize upd H1 p2 (.lst (us.map V.int))=H2 at e2 v2 ⊢
   have W2:=W1.same e2
   refine ⟨_,rfl,mthE W2.tn.ob tF_tasks ⟨zt,sa.x,p,tk,rfl,W2.tn,htl,λp3 ks h3 pm3 pw3=>?_⟩⟩
   have e3:=same_new (o:=.lst (ks.map V.int)) h3
   have v3:upd H2 p3 (.lst (ks.map V.int)) p3=some (.lst (ks.map V.int)):=upd_same
   generalize upd H2 p3 (.lst (ks.map V.int))=H3 at e3 v3 ⊢
   refine ⟨by show 4 <= sizeLine;decide,λl hl=>?_⟩
   have e4:=same_new (o:=.lst [V.ref p0,V.ref p1,V.ref p2,V.ref p3]) hl
   have v4:upd H3 l (.lst [V.ref p0,V.ref p1,V.ref p2,V.ref p3]) l=some (.lst [V.ref p0,V.ref p1,V.ref p2,V.ref p3]):=upd_same
   generalize upd H3 l (.lst [V.ref p0,V.ref p1,V.ref p2,V.ref p3])=H4 at e4 v4 ⊢
   obtain ⟨rg,eg,_⟩:=Rg
   have E1:=e1.trans (e2.trans (e3.trans e4))
   have nn:∀ {Hx:Hp} {c:Addr},Same H Hx->Hx c=none->c≠g:=λs h y=>by rw [y,s _ _ eg] at h;cases h
   have hid:∀ {c:Addr} {o:HO},c≠g->H4 c=some o->hideA g H4 c=some o:=λn e=>by rw [hideA_ne n];exact e
   have tu:∀ {Hx:Hp},Same H Hx->Same Hx H4->∀ b vs,Hx b=some (.tup vs)->hideA g H4 b=some (.tup vs):=λs1 s2 b vs e=>by
     rw [hideA_ne (λy=>by rw [y,s1 _ _ eg] at e;cases e)];exact s2 _ _ e
   refine k us ks l H4 pm2 pw2 pm3 pw3 (e0.trans E1) ⟨l,_,rfl,hid (nn (e0.trans (e1.trans (e2.trans e3))) hl) v4,_,_,rfl,⟨p0,_,rfl,hid (nn (λ_ _ e=>e) h0) (E1 _ _ v0),DVs.keep (tu (λ_ _ e=>e) (e0.trans E1)) _ _ (rows_kds _) d0⟩,_,_,rfl,⟨p1,_,rfl,hid (nn e0 h1) ((e2.trans (e3.trans e4)) _ _ v1),DVs.keep (tu e0 E1) _ _ (rows_kds _) d1⟩,_,_,rfl,⟨p2,_,rfl,hid (nn (e0.trans e1) h2) ((e3.trans e4) _ _ v2),ints_dvs us⟩,_,_,rfl,⟨p3,_,rfl,hid (nn (e0.trans (e1.trans e2)) h3) (e4 _ _ v3),ints_dvs ks⟩,rfl⟩
end
def Due5 (s R:Int) (n:Nat) (m:Mem) (rs:Bool->List Wr) (un:List Int) (t:Str):Prop :=
 (t="full"/\aheadT ⟨s,R,false⟩ m (rs false) .asked .taken=s)\/(t="no name"/\aheadT ⟨s,R,false⟩ m (rs false) .asked .taken≠s/\least n un=none)\/t="no task"
def sp_refused5 (w:World) (CH CT CR CS:Addr):Sp:=λvs H Q _=>∃ (g:Addr) (z:HA) (zt:TA') (sa:SA) (s R:Int) (n:Nat) (m:Mem) (rs:Bool->List Wr) (un tk:List Int) (A B:List (Int × Int)) (T Hd:Nat) (t:Str),vs=[.ref g,.ref sa.x,.ref z.h,.ref zt.h,.str t]/\X5 w CH CT CR CS H z zt sa ⟨s,R,false⟩ n m rs un tk/\M8 s R n m rs un tk A B T Hd/\Rw H g/\¬ own5 z zt sa g/\(∀ b,(rs b).length < 9000)/\Due5 s R n m rs un t /\
 ∀ H',Stp g H H'->Q (.bl true) H'
theorem stp_s {g:Addr} {H H1 H2:Hp} (S:Stp g H H1) (s:Same H1 H2):Stp g H H2:=stp_same S s
section
variable {P:Program} {w:World} {K:PySem.W.Frag} {mg:Str->Option Value} {base:Heap} {a:Ad} {d:Fd}
theorem ok_refused5 (G:Gs K mg a d):FnOk P w K mg base CX0 13 a.law_refused d.law_refused ["well","store","hand","heart","due"] (sp_refused5 w a.Hand a.Heart a.Ring a.Store):=by
 have c_law_seen:FnOk P w K mg base CX0 2 _ _ _ _:=ok_seen5 G
 have c_law_draw:FnOk P w K mg base CX0 1 _ _ _ _:=ok_draw G
 have c_law_worth:FnOk P w K mg base CX0 2 _ _ _ _:=ok_worth G
 have c_law_asked:FnOk P w K mg base CX0 10 _ _ _ _:=ok_asked5 G
 have c_law_answered:FnOk P w K mg base CX0 10 _ _ _ _:=ok_answered5 G
 have c_Heart_tasks:FnOk P w K mg base CX0 1 _ _ _ _:=ok_tasks G
 have c_law_same:FnOk P w K mg base CX0 11 _ _ _ _:=ok_same G 11
 refine G.f_law_refused.ok sc_law_refused (λvs H Q E h=>?_) (λcdv A' outer s' H vs Q E hr h=>?_)
 · obtain ⟨g,z,zt,sa,s,R,n,m,rs,un,tk,A,B,T,Hd,t,rfl,_⟩:=h
   rfl
 · obtain ⟨g,z,zt,sa,s,R,n,m,rs,un,tk,A,B,T,Hd,t,rfl,W,M,Rg,og,hrl,hdue,k⟩:=h
   have hu:=hu_of hr
   refine ⟨_,(@pss_cons _ _ _ _ _ (@ps_set _ _ 5 _ _ _ _ sc_law_refused.nd rfl (Or.inl rfl) (pe_call c_law_seen (hr.mono (by decide)) (by rfl) G.m_law_seen G.f_law_seen.kp G.b_law_seen .nil pass0 (@pa_cons _ _ _ _ _ (pv 1) (@pa_cons _ _ _ _ _ (pv 2) (@pa_cons _ _ _ _ _ (pv 3) pa_nil (by rfl)) (by rfl)) (by rfl))) (by rfl) (by first | exact .inl rfl | exact .inr rfl | assumption))
     (@pss_cons _ _ _ _ _ (ps_for PassesOwn.never rfl (pi_range1 (by rfl) G.n_range (@pa_cons _ _ _ _ _ (@pe_op _ _ _ _ _ _ _ _ op_add pe_int (pe_call c_law_draw (hr.mono (by decide)) (by rfl) G.m_law_draw G.f_law_draw.kp G.b_law_draw .nil pass0 (@pa_cons _ _ _ _ _ (pv 0) (@pa_cons _ _ _ _ _ pe_int pa_nil (by rfl)) (by rfl)))) pa_nil (by rfl))) (pg_name (i:=6) sc_law_refused.nd rfl (Or.inl rfl)) (@pss_cut _ _ _ _ _ (ps_if (pt_cmpR op_in_seq (pv 4) (@pe_tup _ _ _ _ _ (@pa_cons _ _ _ _ _ pe_str (@pa_cons _ _ _ _ _ pe_str pa_nil (by rfl)) (by rfl))) (by with_unfolding_all rfl)) (@pss_one _ _ _ (@ps_set _ _ 7 _ _ _ _ sc_law_refused.nd rfl (Or.inl rfl) (pe_call c_law_asked (hr.mono (by decide)) (by rfl) G.m_law_asked G.f_law_asked.kp G.b_law_asked .nil pass0 (@pa_cons _ _ _ _ _ (pv 2) (@pa_cons _ _ _ _ _ (pe_call c_law_worth (hr.mono (by decide)) (by rfl) G.m_law_worth G.f_law_worth.kp G.b_law_worth .nil pass0 (@pa_cons _ _ _ _ _ (pv 0) pa_nil (by rfl))) pa_nil (by rfl)) (by rfl))) (by rfl) (by first | exact .inl rfl | exact .inr rfl | assumption))) (@pss_cons _ _ _ _ _ (by exact ps_compset (iN:=8) (tc:=tTest (tOp (rIn K true) (tVar 0) (tMeth a.Heart "tasks" (sp_tasks a.Heart a.Ring) [] E0 (tVar 1) tNil))) (te:=tVar 0) (caps:=["heart"]) (js:=[3]) sc_law_refused.nd rfl (Or.inl rfl) (by rfl) rfl (compOk rfl rfl (by decide +kernel) (by decide +kernel) rfl ⟨rfl,trivial⟩ rfl rfl) (by decide +kernel) (λy hy=>by simp only [List.mem_cons,List.not_mem_nil,or_false] at hy;rcases hy with rfl<;>exact ⟨_,rfl⟩) (.cons ⟨rfl,.inl rfl⟩ .nil) (λy hy=>by simp only [List.mem_cons,List.not_mem_nil,or_false] at hy;rcases hy with rfl<;>exact Or.inl rfl) (pi_list (@pe_lst _ _ _ _ (@pa_cons _ _ _ _ _ pe_int (@pa_cons _ _ _ _ _ pe_int (@pa_cons _ _ _ _ _ pe_int (@pa_cons _ _ _ _ _ (pe_un un_neg pe_int) (@pa_cons _ _ _ _ _ (@pe_op _ _ _ _ _ _ _ _ op_pow pe_int pe_int) (@pa_cons _ _ _ _ _ (pe_call c_law_draw (hr.mono (by decide)) (by rfl) G.m_law_draw G.f_law_draw.kp G.b_law_draw .nil pass0 (@pa_cons _ _ _ _ _ (pv 0) (@pa_cons _ _ _ _ _ pe_int pa_nil (by rfl)) (by rfl))) pa_nil (by rfl)) (by rfl)) (by rfl)) (by rfl)) (by rfl)) (by rfl)))) (λC s₃ H₃ pins ex E'=>by exact pts_one (pt_cmpR op_notIn_seq (pv 0) (pe_meth0 (pv 1) G.cl_Heart G.mt_Heart_tasks c_Heart_tasks (hr.mono (by decide)) G.b_Heart_tasks .nil pass0) (by with_unfolding_all rfl))) (λC s₃ H₃ pins ex E'=>by exact (pv 0)))
     (@pss_one _ _ _ (@ps_set _ _ 7 _ _ _ _ sc_law_refused.nd rfl (Or.inl rfl) (pe_call c_law_answered (hr.mono (by decide)) (by rfl) G.m_law_answered G.f_law_answered.kp G.b_law_answered .nil pass0 (@pa_cons _ _ _ _ _ (pv 3) (@pa_cons _ _ _ _ _ (@pe_ix _ _ _ _ _ _ _ ix_list (pv 8) (pe_call c_law_draw (hr.mono (by decide)) (by rfl) G.m_law_draw G.f_law_draw.kp G.b_law_draw .nil pass0 (@pa_cons _ _ _ _ _ (pv 0) (@pa_cons _ _ _ _ _ (pe_callB call_len_seq (by rfl) G.n_len bt_len (@pa_cons _ _ _ _ _ (pv 8) pa_nil (by rfl))) pa_nil (by rfl)) (by rfl))) (λ_ _=>rfl)) (@pa_cons _ _ _ _ _ (pe_call c_law_worth (hr.mono (by decide)) (by rfl) G.m_law_worth G.f_law_worth.kp G.b_law_worth .nil pass0 (@pa_cons _ _ _ _ _ (pv 0) pa_nil (by rfl))) pa_nil (by rfl)) (by rfl)) (by rfl))) (by rfl) (by first | exact .inl rfl | exact .inr rfl | assumption)))))
     (@pss_one _ _ _ (ps_if (pt_not (pt_val (pe_call c_law_same (hr.mono (by decide)) (by rfl) G.m_law_same G.f_law_same.kp G.b_law_same .nil pass0 (@pa_cons _ _ _ _ _ (pv 7) (@pa_cons _ _ _ _ _ (pv 4) pa_nil (by rfl)) (by rfl))))) (@pss_one _ _ _ (@ps_ret _ _ _ _ pe_bl)) pss_nil))))
     (@pss_one _ _ _ (@ps_ret _ _ _ _ (pe_call c_law_same (hr.mono (by decide)) (by rfl) G.m_law_same G.f_law_same.kp G.b_law_same .nil pass0 (@pa_cons _ _ _ _ _ (pe_call c_law_seen (hr.mono (by decide)) (by rfl) G.m_law_seen G.f_law_seen.kp G.b_law_seen .nil pass0 (@pa_cons _ _ _ _ _ (pv 1) (@pa_cons _ _ _ _ _ (pv 2) (@pa_cons _ _ _ _ _ (pv 3) pa_nil (by rfl)) (by rfl)) (by rfl))) (@pa_cons _ _ _ _ _ (pv 5) pa_nil (by rfl)) (by rfl))))))),?_⟩
   have n9:=M.n9
   have unl:=M.und.len (by omega)
   have tkl:=M.tkd.len (by omega)
   refine ⟨_,rfl,_,rfl,_,rfl,g,z,zt,sa,_,n,m,rs,un,tk,rfl,W,by omega,by omega,Rg,λus ks lb H1 pm1 pw1 pm2 pw2 e1 dv1=>?_⟩
   have S1:Stp g H H1:=stp_s (Stp.refl Rg) e1
   clear e1
   refine ⟨_,rfl,g,3,rfl,S1.row,by decide,by decide,λd3 H2 d0 d1 S2=>⟨_,_,rfl,rfl,1+d3,rfl,by omega,by omega,?_⟩⟩
   have dv2:=hide_dv S2.keep dv1
   have S2':=S1.trans S2
   clear S1 S2 dv1
   refine for_range (n:=(1+d3).toNat) (λj σ H'=>(∃ v6 v7 v8,σ=[some (.ref g),some (.ref sa.x),some (.ref z.h),some (.ref zt.h),some (.str t),some (.ref lb),v6,v7,v8])/\Stp g H H'/\DV (hideA g H') (seenD rs us ks) (.ref lb))
     ⟨⟨_,_,_,rfl⟩,S2',dv2⟩ ?_ ?_
   · clear S2' dv2 k
     clear H1 H2
     rintro j σ H1 hj ⟨⟨v6,v7,v8,rfl⟩,S1,dv1⟩
     have W1:=x5stp W S1 Rg og
     refine ⟨λσ' H'=>(∃ v8,σ'=[some (.ref g),some (.ref sa.x),some (.ref z.h),some (.ref zt.h),some (.str t),some (.ref lb),some (.int (0+j)),some (.str t),v8])/\Stp g H H'/\DV (hideA g H') (seenD rs us ks) (.ref lb),?_,?_⟩
     · refine ⟨_,rfl,l2,λt6 h6=>⟨t6,_,rfl,.inr (SqT.of upd_same),rfl,rfl,_,rfl,?_⟩⟩
       have e2:=same_new (o:=.tup [V.str "full",V.str "no name"]) h6
       generalize upd H1 t6 (.tup [V.str "full",V.str "no name"])=H2 at e2 ⊢
       have S2:=stp_s S1 e2
       have W2:=W1.same e2
       have dv2:=hide_dv (λc o _=>e2 c o) dv1
       clear S1 W1 dv1 e2
       rcases hdue with ⟨rfl,hc⟩ | ⟨rfl,hc,hle⟩ | rfl
       · refine iteC (by decide +kernel) ?_
         refine ⟨_,rfl,_,rfl,g,rfl,S2.row,λwt H3 _ _ S3=>?_⟩
         have W3:=x5stp W2 S3 S2.row og
         refine ⟨z,sa,_,n,un,m,rs,wt,rfl,W3.hn,W3.st,M.ok,n9,by omega,by have:=hrl false;omega,?_⟩
         rw [if_pos hc]
         exact λH4 e4=>⟨⟨_,rfl⟩,stp_s (S2.trans S3) e4,hide_dv (λc o n e=>e4 _ _ (S3.keep c o n e)) dv2⟩
       · refine iteC (by decide +kernel) ?_
         refine ⟨_,rfl,_,rfl,g,rfl,S2.row,λwt H3 _ _ S3=>?_⟩
         have W3:=x5stp W2 S3 S2.row og
         refine ⟨z,sa,_,n,un,m,rs,wt,rfl,W3.hn,W3.st,M.ok,n9,by omega,by have:=hrl false;omega,?_⟩
         rw [if_neg hc,hle]
         exact λH4 e4=>⟨⟨_,rfl⟩,stp_s (S2.trans S3) e4,hide_dv (λc o n e=>e4 _ _ (S3.keep c o n e)) dv2⟩
       · refine iteN (by decide +kernel) ?_
         refine ⟨_,rfl,_,_,rfl,rfl,⟨by decide,by decide,by decide⟩,_,rfl,g,10,rfl,S2.row,by decide,by decide,λd4 H3 d40 d41 S3=>⟨by show 6 <= sizeLine;decide,λp0 hp0=>⟨p0,rfl,⟨_,SqL.of upd_same⟩,λD hD=>?_⟩⟩⟩
         have S3':=S2.trans S3
         have dv3:=hide_dv S3.keep dv2
         have W3:=x5stp W2 S3 S2.row og
         clear S2 dv2 W2 S3
         generalize hcs:[V.int 0,V.int 8,V.int 9,V.int (-1),V.int (10 ^ (9:Int).toNat),V.int d4]=cs at hD ⊢
         have hcl:cs.length=6:=by rw [← hcs];rfl
         have hci:∀ {i:Nat} {y:V},cs[i]?=some y->∃ x,y=V.int x/\(i=2->x=9):=λ{i y} h=>by
           rw [← hcs] at h
           match i,h with
           | 0,h=>cases h;exact ⟨_,rfl,λy=>by cases y⟩
           | 1,h=>cases h;exact ⟨_,rfl,λy=>by cases y⟩
           | 2,h=>cases h;exact ⟨_,rfl,λ_=>rfl⟩
           | 3,h=>cases h;exact ⟨_,rfl,λy=>by cases y⟩
           | 4,h=>cases h;exact ⟨_,rfl,λy=>by cases y⟩
           | 5,h=>cases h;exact ⟨_,rfl,λy=>by cases y⟩
           | (_+6),h=>cases h
         have e4:=same_new (o:=.lst cs) hp0
         have v4:upd H3 p0 (.lst cs) p0=some (.lst cs):=upd_same
         generalize upd H3 p0 (.lst cs)=H4 at e4 v4 hD ⊢
         have W4:=W3.same e4
         have S4:=stp_s S3' e4
         have dv4:=hide_dv (λc o _=>e4 c o) dv3
         clear W3 S3' dv3 e4 hp0
         refine ⟨λi mm ys H'=>i <= 6/\mm=6 - i/\(∃ ns:List Int,ys=ns.map V.int/\(∀ x∈ns,tk.contains x=false)/\ns.length <= i/\(3 <= i->ns≠[]))/\H' D=some (.lst ys)/\∀ c o,c≠D->H4 c=some o->H' c=some o,⟨_,Nat.zero_le _,rfl,⟨[],rfl,λ_ h=>(by cases h),Nat.le_refl _,λh=>by omega⟩,upd_same,λc o n e=>by rw [upd_ne n];exact e⟩,?_⟩
         rintro i mm ys H5 ⟨hi,rfl,⟨ns,rfl,hns,hnl,hn3⟩,hD5,k5⟩
         have e5:Same H4 H5:=λc o e=>k5 c o (λy=>by rw [y,hD] at e;cases e) e
         refine ⟨hD5,Nat.lt_of_lt_of_le (show _ < 1000 by rw [List.length_map];omega) (by decide),?_⟩
         by_cases hi6:i=6
         · refine .inl ⟨⟨cs,SqL.of (e5 _ _ v4),by omega⟩,?_⟩
           have W5:=W4.same e5
           have S5:=stp_s S4 e5
           have dv5:=hide_dv (λc o _=>e5 c o) dv4
           have hDg:D≠g:=λy=>by
             obtain ⟨rw,er,_⟩:=S4.row
             rw [← y,hD] at er;cases er
           clear W4 S4 dv4
           have hnp:0 < ns.length:=by
             have:=hn3 (by omega)
             cases ns with
             | nil=>exact absurd rfl this
             | cons=>exact Nat.succ_pos _
           refine ⟨_,rfl,_,rfl,_,rfl,_,rfl,D,_,rfl,.inl (SqL.of hD5),g,_,rfl,S5.row,by rw [List.length_map];omega,by rw [List.length_map];omega,λd5 H6 d50 d51 S6=>?_⟩
           rw [List.length_map] at d51
           obtain ⟨v,hv,hvm⟩:=at_in (xs:=ns.map V.int) d50 (by rw [List.length_map];exact d51)
           obtain ⟨x,hx,rfl⟩:=List.mem_map.mp hvm
           refine ⟨D,_,_,_,rfl,rfl,SqL.of (S6.keep _ _ hDg hD5),hv,_,rfl,g,rfl,S6.row,λwt H7 _ _ S7=>?_⟩
           have W7:=x5stp (x5stp W5 S6 S5.row og) S7 S6.row og
           refine ⟨zt,sa,_,tk,m,rs,x,wt,rfl,W7.tn,W7.st,M.ok,by have:=hrl true;omega,λy hy=>M.tkd.2 y hy,?_⟩
           rw [if_pos (hns x hx)]
           exact λH8 e8=>⟨⟨_,rfl⟩,stp_s ((S5.trans S6).trans S7) e8,hide_dv (λc o n e=>e8 _ _ (S7.keep c o n (S6.keep c o n e))) dv5⟩
         · refine .inr ⟨⟨cs,_,SqL.of (e5 _ _ v4),List.getElem?_eq_getElem (by omega)⟩,?_⟩
           rintro y H6 ⟨rfl,hy'⟩
           obtain ⟨x,rfl,hx9⟩:=hci (hy' cs (SqL.of (e5 _ _ v4)))
           have W5:=W4.same e5
           refine ⟨_,rfl,_,rfl,mthE W5.tn.ob tF_tasks ⟨zt,sa.x,_,tk,rfl,W5.tn,by omega,λp6 ns6 hp6 pm6 pw6=>?_⟩⟩
           refine ⟨p6,_,rfl,.inl (SqL.of upd_same),rfl,ints_flat ns6,_,rfl,?_⟩
           simp only [if_true]
           rw [inV_int]
           have hc6:ns6.contains x=tk.contains x:=by
             rw [List.contains_eq_mem,List.contains_eq_mem]
             exact decide_eq_decide.mpr pm6.mem_iff
           have nD:D≠p6:=λy=>by rw [← y,hD5] at hp6;cases hp6
           rw [hc6]
           cases hb:tk.contains x with
           | true =>
             refine iteF ⟨6 - (i+1),by omega,by omega,rfl,⟨ns,rfl,hns,by omega,λh3=>?_⟩,by rw [upd_ne nD];exact hD5,λc o n e=>same_new hp6 _ _ (k5 c o n e)⟩
             by_cases hi2:i=2
             · have:=hx9 hi2
               subst this
               have h9:=M.tkd.2 9 (by rw [List.contains_eq_mem] at hb;exact of_decide_eq_true hb)
               omega
             · exact hn3 (by omega)
           | false =>
             refine iteT ⟨_,rfl,by rw [upd_ne nD];exact hD5,6 - (i+1),by omega,by omega,rfl,⟨ns++[x],by rw [List.map_append];rfl,λy hy=>?_,by rw [List.length_append];show _+1 <= _;omega,λ_=>by simp⟩,upd_same,λc o n e=>by rw [upd_ne n];exact same_new hp6 _ _ (k5 c o n e)⟩
             rcases List.mem_append.mp hy with h | h
             · exact hns y h
             · rw [List.mem_singleton.mp h];exact hb
     · rintro σ' H2 ⟨⟨v8,rfl⟩,S2,dv2⟩
       refine ⟨_,rfl,_,rfl,_,_,.str t,rfl,rfl,rfl,layStr ?_,by show 0 <= 10;decide,λH3 e3=>⟨_,rfl,iteF ?_⟩⟩
       · rcases hdue with ⟨rfl,_⟩ | ⟨rfl,_⟩ | rfl<;>decide +kernel
       · exact ⟨⟨_,_,_,rfl⟩,stp_s S2 e3,hide_dv (λc o _=>e3 c o) dv2⟩
   · rintro σ H3 ⟨⟨v6,v7,v8,rfl⟩,S3,dv3⟩
     have W3:=x5stp W S3 Rg og
     refine ⟨_,rfl,_,rfl,_,rfl,g,z,zt,sa,_,n,m,rs,un,tk,rfl,W3,by omega,by omega,S3.row,λus' ks' lb' H4 pm1' pw1' pm2' pw2' e4 dv4=>?_⟩
     rw [sort_one pm1' pm1 pw1' pw1,sort_one pm2' pm2 pw2' pw2] at dv4
     obtain ⟨y1,y2⟩:=seen_lay rs us ks
     exact ⟨_,rfl,_,_,_,rfl,dv_hide dv4,dv_hide (hide_dv (λc o _=>e4 c o) dv3),y1,y2,λH5 e5=>k H5 (stp_s (stp_s S3 e4) e5)⟩
end

def kmin (s:Int) (n:Nat):Nat:=min s.toNat n
theorem kmin_if {s:Int} {n:Nat} (hs:0 < s):(if (n:Int) < s then (n:Int) else s)=(kmin s n:Int):=by
 unfold kmin;split<;>omega
def sp_aa (w:World) (CH CT CR CS:Addr):Sp:=λvs H Q _=>∃ (g:Addr) (z:HA) (zt:TA') (sa:SA) (s R:Int) (n:Nat) (m:Mem),vs=[.ref g,.ref sa.x,.ref z.h,.ref zt.h,.int s,.int n]/\X5 w CH CT CR CS H z zt sa ⟨s,R,false⟩ n m (λ_=>[]) [] []/\M8 s R n m (λ_=>[]) [] [] [] [] 0 0/\Rw H g/\¬ own5 z zt sa g /\
 ∀ H' m rs A,X5 w CH CT CR CS H' z zt sa ⟨s,R,false⟩ n m rs (upto (kmin s n)) []->M8 s R n m rs (upto (kmin s n)) [] A [] 0 0->A.map (·.1)=upto (kmin s n)->rs true=[]->(rs false).length <= 20->Rw H' g->KO (own6 z zt sa g) H H'->Q (.bl true) H'
section
variable {H H':Hp} {z:HA} {zt:TA'} {sa:SA}
theorem ko6_stp {g:Addr} (S:Stp g H H'):KO (own6 z zt sa g) H H':=λc o nc e=>S.keep c o (λy=>nc (.inr y)) e
theorem ko6_h {g:Addr} (k:Kp [z.gd,sa.l false] H H'):KO (own6 z zt sa g) H H':=KO.of_kp k λc hc=>.inl (own5_h c hc)
theorem ko6_t {g:Addr} (k:Kp [zt.gd,sa.l true] H H'):KO (own6 z zt sa g) H H':=KO.of_kp k λc hc=>.inl (own5_t c hc)
theorem ko6_s {g:Addr} {b:Bool} (k:Kp [sa.l b,sa.hd] H H'):KO (own6 z zt sa g) H H':=KO.of_kp k λc hc=>.inl (own5_s c hc)
theorem rw6 {g:Addr} {xs:List Addr} (R:Rw H g) (k:Kp xs H H') (h:∀ c∈xs,own5 z zt sa c) (og:¬ own5 z zt sa g):Rw H' g:=R.kp k λmm=>og (h g mm)
end
theorem pick5 {s:Int} {n:Nat}:atI [V.str "no name",V.str "full"] (if decide (s <= (n:Int))=true then 1 else 0)=some (.str (if s <= (n:Int) then "full" else "no name")):=by
 by_cases h:s <= (n:Int)
 · rw [if_pos (decide_eq_true h),if_pos h];rfl
 · rw [if_neg (by rw [decide_eq_true_eq];exact h),if_neg h];rfl
theorem due5 {s R:Int} {n:Nat} {m:Mem} {rs:Bool->List Wr} {tk:List Int} {A B:List (Int × Int)} {T Hd:Nat} (M:M8 s R n m rs (upto (kmin s n)) tk A B T Hd) (hAl:A.length=kmin s n) (hT:(T:Int) - (nC .taken (rs true):Nat)=0):Due5 s R n m rs (upto (kmin s n)) (if s <= (n:Int) then "full" else "no name"):=by
 have s0:=M.s0
 by_cases h:s <= (n:Int)
 · rw [if_pos h]
   exact .inl ⟨rfl,M.full.mpr (by rw [hT,hAl];unfold kmin;omega)⟩
 · rw [if_neg h]
   exact .inr (.inl ⟨rfl,by rw [Ne,M.full,hT,hAl];unfold kmin;omega,least_upto_none (by unfold kmin;omega)⟩)
section
variable {P:Program} {w:World} {K:PySem.W.Frag} {mg:Str->Option Value} {base:Heap} {a:Ad} {d:Fd}
theorem ok_aa (G:Gs K mg a d):FnOk P w K mg base CX0 14 a.law_all_asked d.law_all_asked ["well","store","hand","heart","size","names"] (sp_aa w a.Hand a.Heart a.Ring a.Store):=by
 have c_law_worth:FnOk P w K mg base CX0 2 _ _ _ _:=ok_worth G
 have c_law_asked:FnOk P w K mg base CX0 10 _ _ _ _:=ok_asked5 G
 have c_law_same:FnOk P w K mg base CX0 11 _ _ _ _:=ok_same G 11
 have c_law_refused:FnOk P w K mg base CX0 13 _ _ _ _:=ok_refused5 G
 refine G.f_law_all_asked.ok sc_law_all_asked (λvs H Q E h=>?_) (λcdv A' outer s' H vs Q E hr h=>?_)
 · obtain ⟨g,z,zt,sa,s,R,n,m,rfl,_⟩:=h
   rfl
 · obtain ⟨g,z,zt,sa,s,R,n,m,rfl,W,M,Rg,og,k⟩:=h
   have hu:=hu_of hr
   refine ⟨_,(@pss_cons _ _ _ _ _ (ps_for PassesOwn.never rfl (pi_range1 (by rfl) G.n_range (@pa_cons _ _ _ _ _ (pe_callB (call_min2 rfl) (by rfl) G.n_min bt_min (@pa_cons _ _ _ _ _ (pv 4) (@pa_cons _ _ _ _ _ (pv 5) pa_nil (by rfl)) (by rfl))) pa_nil (by rfl))) (pg_name (i:=6) sc_law_all_asked.nd rfl (Or.inl rfl)) (@pss_one _ _ _ (ps_if (pt_not (pt_val (pe_call c_law_same (hr.mono (by decide)) (by rfl) G.m_law_same G.f_law_same.kp G.b_law_same .nil pass0 (@pa_cons _ _ _ _ _ (pe_call c_law_asked (hr.mono (by decide)) (by rfl) G.m_law_asked G.f_law_asked.kp G.b_law_asked .nil pass0 (@pa_cons _ _ _ _ _ (pv 2) (@pa_cons _ _ _ _ _ (pe_call c_law_worth (hr.mono (by decide)) (by rfl) G.m_law_worth G.f_law_worth.kp G.b_law_worth .nil pass0 (@pa_cons _ _ _ _ _ (pv 0) pa_nil (by rfl))) pa_nil (by rfl)) (by rfl))) (@pa_cons _ _ _ _ _ (pv 6) pa_nil (by rfl)) (by rfl))))) (@pss_one _ _ _ (@ps_ret _ _ _ _ pe_bl)) pss_nil)))
     (@pss_cons _ _ _ _ _ (ps_if (pt_not (pt_val (pe_call c_law_refused (hr.mono (by decide)) (by rfl) G.m_law_refused G.f_law_refused.kp G.b_law_refused .nil pass0 (@pa_cons _ _ _ _ _ (pv 0) (@pa_cons _ _ _ _ _ (pv 1) (@pa_cons _ _ _ _ _ (pv 2) (@pa_cons _ _ _ _ _ (pv 3) (@pa_cons _ _ _ _ _ pe_str pa_nil (by rfl)) (by rfl)) (by rfl)) (by rfl)) (by rfl))))) (@pss_one _ _ _ (@ps_ret _ _ _ _ pe_bl)) pss_nil)
     (@pss_one _ _ _ (@ps_ret _ _ _ _ (pe_call c_law_refused (hr.mono (by decide)) (by rfl) G.m_law_refused G.f_law_refused.kp G.b_law_refused .nil pass0 (@pa_cons _ _ _ _ _ (pv 0) (@pa_cons _ _ _ _ _ (pv 1) (@pa_cons _ _ _ _ _ (pv 2) (@pa_cons _ _ _ _ _ (pv 3) (@pa_cons _ _ _ _ _ (@pe_ix _ _ _ _ _ _ _ ix_list (@pe_lst _ _ _ _ (@pa_cons _ _ _ _ _ pe_str (@pa_cons _ _ _ _ _ pe_str pa_nil (by rfl)) (by rfl))) (pe_callTy call_int1 (by rfl) G.n_int bt_int (@pa_cons _ _ _ _ _ (pe_cmpR op_le (pv 4) (pv 5) (nomark _)) pa_nil (by rfl))) (λ_ _=>rfl)) pa_nil (by rfl)) (by rfl)) (by rfl)) (by rfl)) (by rfl))))))),?_⟩
   have n9:=M.n9
   have s0:=M.s0
   have s8:=M.s8
   have hk8:kmin s n <= 8:=by unfold kmin;omega
   refine ⟨_,rfl,_,rfl,s,n,rfl,_,rfl,by rw [kmin_if s0];omega,by rw [kmin_if s0];omega,?_⟩
   rw [kmin_if s0,Int.toNat_natCast]
   refine for_range (n:=kmin s n) (λj σ H'=>∃ m rs A,(∃ v6,σ=[some (.ref g),some (.ref sa.x),some (.ref z.h),some (.ref zt.h),some (.int s),some (.int n),v6])/\X5 w a.Hand a.Heart a.Ring a.Store H' z zt sa ⟨s,R,false⟩ n m rs (upto j) []/\M8 s R n m rs (upto j) [] A [] 0 0/\A.map (·.1)=upto j/\rs true=[]/\(rs false).length <= 2 * j/\Rw H' g/\KO (own6 z zt sa g) H H')
     ⟨m,_,[],⟨_,rfl⟩,W,M,rfl,rfl,Nat.zero_le _,Rg,KO.refl _ _⟩ ?_ ?_
   · clear k
     rintro j σ H1 hj ⟨m,rs,A,⟨v6,rfl⟩,W1,M1,hA,ht,hl,R1,k1⟩
     have hjk:j < s.toNat/\j < n:=by unfold kmin at hj;omega
     have hAl:A.length=j:=by have:=congrArg List.length hA;rw [List.length_map,upto_len] at this;exact this
     refine ⟨_,rfl,_,rfl,g,rfl,R1,λwt H2 _ _ S2=>?_⟩
     have W2:=x5stp W1 S2 R1 og
     refine ⟨z,sa,_,n,_,m,rs,wt,rfl,W2.hn,W2.st,M1.ok,n9,by rw [upto_len];omega,by omega,?_⟩
     have hnf:aheadT ⟨s,R,false⟩ m (rs false) .asked .taken≠s:=by
       rw [Ne,M1.full,ht,hAl]
       show ¬ ((j:Int) - ((0:Int) - ((0:Nat):Int))=s)
       omega
     rw [if_neg hnf,least_upto hjk.2]
     intro H3 hn3 st3 kp3
     have W3:=W2.hand hn3 st3 kp3
     have M3:=M1.ask hnf (least_upto hjk.2) wt
     rw [← upto_succ] at W3 M3
     have R3:=rw6 S2.row kp3 own5_h og
     refine ⟨_,rfl,_,_,.int (j:Int),rfl,rfl,by rw [Int.zero_add];rfl,LayD.int _,by show 0 <= 10;decide,λH4 e4=>⟨_,rfl,iteF ?_⟩⟩
     refine ⟨m,_,A++[((j:Int),wt)],⟨_,rfl⟩,W3.same e4,M3,by rw [List.map_append,hA,upto_succ];rfl,by rw [setR_ne (by decide)];exact ht,by rw [setR_same,List.length_append,lay_len];omega,R3.kp (Kp.same e4 []) (by simp),ko_5 k1 (ko_5 (ko6_stp S2) (ko_5 (ko6_h kp3) (KO.of_same e4)))⟩
   · rintro σ H1 ⟨m,rs,A,⟨v6,rfl⟩,W1,M1,hA,ht,hl,R1,k1⟩
     have hAl:A.length=kmin s n:=by have:=congrArg List.length hA;rw [List.length_map,upto_len] at this;exact this
     have hrl:∀ b,(rs b).length < 9000:=λb=>by
       cases b
       · omega
       · rw [ht];show 0 < 9000;decide
     refine ⟨_,rfl,_,rfl,_,rfl,_,rfl,g,z,zt,sa,s,R,n,m,rs,_,_,A,[],0,0,_,rfl,W1,M1,R1,og,hrl,.inr (.inr rfl),λH2 S2=>⟨_,rfl,iteF ?_⟩⟩
     have W2:=x5stp W1 S2 R1 og
     refine ⟨_,rfl,_,rfl,_,rfl,_,rfl,l2,λl1 h1=>⟨_,rfl,_,rfl,_,_,rfl,rfl,.inr ⟨_,rfl,l1,_,_,_,rfl,rfl,SqL.of upd_same,pick5,?_⟩⟩⟩
     have e3:=same_new (o:=.lst [V.str "no name",V.str "full"]) h1
     generalize upd H2 l1 (.lst [V.str "no name",V.str "full"])=H3 at e3 ⊢
     have R3:Rw H3 g:=S2.row.kp (Kp.same e3 []) (by simp)
     refine ⟨g,z,zt,sa,s,R,n,m,rs,_,_,A,[],0,0,_,rfl,W2.same e3,M1,R3,og,hrl,due5 M1 hAl (by rw [ht];rfl),λH4 S4=>?_⟩
     exact k H4 m rs A (x5stp (W2.same e3) S4 R3 og) M1 hA ht (by omega) S4.row (ko_5 k1 (ko_5 (ko6_stp S2) (ko_5 (KO.of_same e3) (ko6_stp S4))))
end
def kplus (s:Int) (n:Nat):Nat:=min (s.toNat+1) n
def sp_again (w:World) (CH CT CR CS:Addr):Sp:=λvs H Q _=>∃ (g:Addr) (z:HA) (zt:TA') (sa:SA) (s R:Int) (n:Nat) (m:Mem) (rs:Bool->List Wr) (A:List (Int × Int)),vs=[.ref g,.ref sa.x,.ref z.h,.ref zt.h,.int s,.int n]/\X5 w CH CT CR CS H z zt sa ⟨s,R,false⟩ n m rs (upto (kmin s n)) []/\M8 s R n m rs (upto (kmin s n)) [] A [] 0 0/\A.map (·.1)=upto (kmin s n)/\rs true=[]/\(rs false).length <= 20/\Rw H g/\¬ own5 z zt sa g/\0 < n /\
 ∀ H' m rs A,X5 w CH CT CR CS H' z zt sa ⟨s,R,false⟩ n m rs (upto (kplus s n)) (upto (kplus s n))->M8 s R n m rs (upto (kplus s n)) (upto (kplus s n)) A [] (kplus s n) 0->A.length=kplus s n->rs false=[]->(rs true).length <= 20->Rw H' g->KO (own6 z zt sa g) H H'->Q (.bl true) H'
section
variable {P:Program} {w:World} {K:PySem.W.Frag} {mg:Str->Option Value} {base:Heap} {a:Ad} {d:Fd}
theorem ok_again (G:Gs K mg a d):FnOk P w K mg base CX0 14 a.law_asked_again d.law_asked_again ["well","store","hand","heart","size","names"] (sp_again w a.Hand a.Heart a.Ring a.Store):=by
 have c_Store_fence:FnOk P w K mg base CX0 2 _ _ _ _:=(ok_fence G).imp λvs H Q E=>fenceT
 have c_Heart_take:FnOk P w K mg base CX0 7 _ _ _ _:=(ok_taske G).imp λvs H Q E=>takeT
 have c_law_asked:FnOk P w K mg base CX0 10 _ _ _ _:=ok_asked5 G
 have c_law_same:FnOk P w K mg base CX0 11 _ _ _ _:=ok_same G 11
 have c_law_refused:FnOk P w K mg base CX0 13 _ _ _ _:=ok_refused5 G
 refine G.f_law_asked_again.ok sc_law_asked_again (λvs H Q E h=>?_) (λcdv A' outer s' H vs Q E hr h=>?_)
 · obtain ⟨g,z,zt,sa,s,R,n,m,rs,A,rfl,_⟩:=h
   rfl
 · obtain ⟨g,z,zt,sa,s,R,n,m,rs,A,rfl,W,M,hA,ht,hl,Rg,og,n0,k⟩:=h
   have hu:=hu_of hr
   refine ⟨_,(@pss_cons _ _ _ _ _ (@ps_expr _ _ _ _ (pe_meth (pv 1) G.cl_Store G.mt_Store_fence c_Store_fence (hr.mono (by decide)) G.b_Store_fence .nil pass0 (@pa_cons _ _ _ _ _ pe_int pa_nil (by rfl))) (by rfl))
     (@pss_cons _ _ _ _ _ (ps_for PassesOwn.never rfl (pi_range1 (by rfl) G.n_range (@pa_cons _ _ _ _ _ (pe_callB (call_min2 rfl) (by rfl) G.n_min bt_min (@pa_cons _ _ _ _ _ (pv 4) (@pa_cons _ _ _ _ _ (pv 5) pa_nil (by rfl)) (by rfl))) pa_nil (by rfl))) (pg_name (i:=6) sc_law_asked_again.nd rfl (Or.inl rfl)) (@pss_cons _ _ _ _ _ (@ps_set _ _ 7 _ _ _ _ sc_law_asked_again.nd rfl (Or.inl rfl) (pe_meth0 (pv 3) G.cl_Heart G.mt_Heart_take c_Heart_take (hr.mono (by decide)) G.b_Heart_take .nil pass0) (by rfl) (by first | exact .inl rfl | exact .inr rfl | assumption))
     (@pss_one _ _ _ (ps_if ((pw_or (pt_not (pt_val (pe_callB call_isinst (by rfl) G.n_isinstance bt_isinstance (@pa_cons _ _ _ _ _ (pv 7) (@pa_cons _ _ _ _ _ (pe_bltn (v:=.ty "tuple") (by rfl) G.n_tuple bt_tuple rfl) pa_nil (by rfl)) (by rfl))))) (pw_or (pt_cmpR op_ne (pe_callB call_len_seq (by rfl) G.n_len bt_len (@pa_cons _ _ _ _ _ (pv 7) pa_nil (by rfl))) pe_int (nomark _)) (pw_or1 (pt_cmpR op_ne (@pe_ix _ _ _ _ _ _ _ ix_tup (pv 7) pe_int (λ_ _=>rfl)) (pv 6) (nomark _)))))).pt (@pss_one _ _ _ (@ps_ret _ _ _ _ pe_bl)) pss_nil))))
     (@pss_cons _ _ _ _ _ (ps_if (pt_not (pt_val (pe_call c_law_refused (hr.mono (by decide)) (by rfl) G.m_law_refused G.f_law_refused.kp G.b_law_refused .nil pass0 (@pa_cons _ _ _ _ _ (pv 0) (@pa_cons _ _ _ _ _ (pv 1) (@pa_cons _ _ _ _ _ (pv 2) (@pa_cons _ _ _ _ _ (pv 3) (@pa_cons _ _ _ _ _ (@pe_ix _ _ _ _ _ _ _ ix_list (@pe_lst _ _ _ _ (@pa_cons _ _ _ _ _ pe_str (@pa_cons _ _ _ _ _ pe_str pa_nil (by rfl)) (by rfl))) (pe_callTy call_int1 (by rfl) G.n_int bt_int (@pa_cons _ _ _ _ _ (pe_cmpR op_le (pv 4) (pv 5) (nomark _)) pa_nil (by rfl))) (λ_ _=>rfl)) pa_nil (by rfl)) (by rfl)) (by rfl)) (by rfl)) (by rfl))))) (@pss_one _ _ _ (@ps_ret _ _ _ _ pe_bl)) pss_nil)
     (@pss_cons _ _ _ _ _ (@ps_expr _ _ _ _ (pe_meth (pv 1) G.cl_Store G.mt_Store_fence c_Store_fence (hr.mono (by decide)) G.b_Store_fence .nil pass0 (@pa_cons _ _ _ _ _ pe_int pa_nil (by rfl))) (by rfl))
     (@pss_cons _ _ _ _ _ (ps_if ((pw_and (pt_cmpR op_lt (pv 4) (pv 5) (nomark _)) (pw_and1 (pt_not (pt_val (pe_call c_law_same (hr.mono (by decide)) (by rfl) G.m_law_same G.f_law_same.kp G.b_law_same .nil pass0 (@pa_cons _ _ _ _ _ (pe_call c_law_asked (hr.mono (by decide)) (by rfl) G.m_law_asked G.f_law_asked.kp G.b_law_asked .nil pass0 (@pa_cons _ _ _ _ _ (pv 2) (@pa_cons _ _ _ _ _ pe_int pa_nil (by rfl)) (by rfl))) (@pa_cons _ _ _ _ _ (pv 4) pa_nil (by rfl)) (by rfl)))))))).pt (@pss_one _ _ _ (@ps_ret _ _ _ _ pe_bl)) pss_nil)
     (@pss_cons _ _ _ _ _ (ps_if (pt_cmpR op_lt (pv 4) (pv 5) (nomark _)) (@pss_cons _ _ _ _ _ (@ps_expr _ _ _ _ (pe_meth (pv 1) G.cl_Store G.mt_Store_fence c_Store_fence (hr.mono (by decide)) G.b_Store_fence .nil pass0 (@pa_cons _ _ _ _ _ pe_int pa_nil (by rfl))) (by rfl))
     (@pss_one _ _ _ (@ps_ret _ _ _ _ (pe_call c_law_same (hr.mono (by decide)) (by rfl) G.m_law_same G.f_law_same.kp G.b_law_same .nil pass0 (@pa_cons _ _ _ _ _ (pe_meth0 (pv 3) G.cl_Heart G.mt_Heart_take c_Heart_take (hr.mono (by decide)) G.b_Heart_take .nil pass0) (@pa_cons _ _ _ _ _ (@pe_tup _ _ _ _ _ (@pa_cons _ _ _ _ _ (pv 4) (@pa_cons _ _ _ _ _ pe_int pa_nil (by rfl)) (by rfl))) pa_nil (by rfl)) (by rfl)))))) pss_nil)
     (@pss_one _ _ _ (@ps_ret _ _ _ _ (pe_call c_law_refused (hr.mono (by decide)) (by rfl) G.m_law_refused G.f_law_refused.kp G.b_law_refused .nil pass0 (@pa_cons _ _ _ _ _ (pv 0) (@pa_cons _ _ _ _ _ (pv 1) (@pa_cons _ _ _ _ _ (pv 2) (@pa_cons _ _ _ _ _ (pv 3) (@pa_cons _ _ _ _ _ pe_str pa_nil (by rfl)) (by rfl)) (by rfl)) (by rfl)) (by rfl))))))))))),?_⟩
   have n9:=M.n9
   have s0:=M.s0
   have s8:=M.s8
   have hk8:kmin s n <= 8:=by unfold kmin;omega
   have hAl:A.length=kmin s n:=by have:=congrArg List.length hA;rw [List.length_map,upto_len] at this;exact this
   refine ⟨_,rfl,mthE W.st.ob (stF_no (by decide +kernel) (by decide +kernel)) ⟨sa,m,rs,false,rfl,W.st,by omega,λH1 st1 kp1=>?_⟩⟩
   have W1:=W.store st1 kp1
   have M1:=M8.fence false (rs false) M rfl
   have R1:=rw6 Rg kp1 own5_s og
   have k1:KO (own6 z zt sa g) H H1:=ko6_s kp1
   have ht1:setR rs false [] true=[]:=by rw [setR_ne (by decide)];exact ht
   have hf1:setR rs false [] false=[]:=setR_same
   generalize m.putAll (rs false)=m1 at W1 M1
   generalize setR rs false []=rs1 at W1 M1 ht1 hf1
   clear W M Rg st1 kp1 hl ht
   refine ⟨_,rfl,_,rfl,s,n,rfl,_,rfl,by rw [kmin_if s0];omega,by rw [kmin_if s0];omega,?_⟩
   rw [kmin_if s0,Int.toNat_natCast]
   refine for_range (n:=kmin s n) (λj σ H'=>∃ rs,(∃ v6 v7,σ=[some (.ref g),some (.ref sa.x),some (.ref z.h),some (.ref zt.h),some (.int s),some (.int n),v6,v7])/\X5 w a.Hand a.Heart a.Ring a.Store H' z zt sa ⟨s,R,false⟩ n m1 rs (upto (kmin s n)) (upto j)/\M8 s R n m1 rs (upto (kmin s n)) (upto j) A [] j 0/\rs false=[]/\(rs true).length=j/\nC .taken (rs true)=j/\Rw H' g/\KO (own6 z zt sa g) H H')
     ⟨rs1,⟨_,_,rfl⟩,W1,M1,hf1,by rw [ht1];rfl,by rw [ht1];rfl,R1,k1⟩ ?_ ?_
   · clear k W1 M1 R1 k1 ht1 hf1
     clear H1
     rintro j σ H1 hj ⟨rs,⟨v6,v7,rfl⟩,W1,M1,hf,hl,hnc,R1,k1⟩
     refine ⟨_,rfl,mthE W1.tn.ob tF_take ⟨zt,sa,_,_,m1,rs,rfl,W1.tn,W1.st,M1.ok,by rw [upto_len];omega,by omega,?_⟩⟩
     have h0:aheadT ⟨s,R,false⟩ m1 (rs true) .asked .taken≠0:=by
       rw [Ne,(M1.seen.1 hf).1];omega
     obtain ⟨nw,e1,e2,_,hc,hb,M2⟩:=M1.takeR h0
     rw [if_neg h0,e2]
     intro c H2 hc2 tn2 st2 kp2
     have hnw:nw.1=(j:Int):=by
       have h1:(A.map (·.1))[j]?=some nw.1:=by rw [List.getElem?_map,e1];rfl
       rw [hA,upto_get hj] at h1
       exact (Option.some.inj h1).symm
     rw [hnw] at hc M2 tn2 hc2
     rw [show gNext (upto j) (j:Int)=upto (j+1) by unfold gNext;rw [if_neg (by rw [hc];decide),upto_succ]] at tn2
     rw [← upto_succ] at M2
     have W2:=W1.heart tn2 st2 kp2
     refine ⟨_,rfl,_,_,.type "tuple",true,rfl,.tup hc2,kx_tt,_,rfl,iteF ?_⟩
     refine ⟨_,rfl,c,_,rfl,.inr (SqT.of hc2),rfl,_,rfl,iteN (by simp) ?_⟩
     refine ⟨_,rfl,c,_,_,_,rfl,rfl,SqT.of hc2,rfl,_,rfl,rfl,_,rfl,iteN (by rw [Int.zero_add];simp) ?_⟩
     refine ⟨_,⟨_,_,rfl⟩,W2,M2,by rw [setR_ne (by decide)];exact hf,by rw [setR_same,List.length_append,hl];rfl,?_,rw6 R1 kp2 own5_t og,ko_5 k1 (ko6_t kp2)⟩
     rw [setR_same,nC_snoc,hnc];rfl
   · rintro σ H2 ⟨rs,⟨v6,v7,rfl⟩,W2,M2,hf,hl,hnc,R2,k2⟩
     clear W1 M1 R1 k1 ht1 hf1
     have hrl:∀ b,(rs b).length < 9000:=λb=>by
       cases b
       · rw [hf];show 0 < 9000;decide
       · omega
     refine ⟨_,rfl,_,rfl,_,rfl,_,rfl,l2,λl1 h1=>⟨_,rfl,_,rfl,_,_,rfl,rfl,.inr ⟨_,rfl,l1,_,_,_,rfl,rfl,SqL.of upd_same,pick5,?_⟩⟩⟩
     have e3:=same_new (o:=.lst [V.str "no name",V.str "full"]) h1
     generalize upd H2 l1 (.lst [V.str "no name",V.str "full"])=H3 at e3 ⊢
     have R3:Rw H3 g:=R2.kp (Kp.same e3 []) (by simp)
     refine ⟨g,z,zt,sa,s,R,n,m1,rs,_,_,A,[],_,0,_,rfl,W2.same e3,M2,R3,og,hrl,due5 M2 hAl (by rw [hnc];omega),λH4 S4=>⟨_,rfl,iteF ?_⟩⟩
     have W4:=x5stp (W2.same e3) S4 R3 og
     have k4:KO (own6 z zt sa g) H H4:=ko_5 k2 (ko_5 (KO.of_same e3) (ko6_stp S4))
     have R4:=S4.row
     clear W2 R2 R3 e3 S4 k2
     refine ⟨_,rfl,mthE W4.st.ob (stF_no (by decide +kernel) (by decide +kernel)) ⟨sa,m1,rs,true,rfl,W4.st,by omega,λH5 st5 kp5=>?_⟩⟩
     have W5:=W4.store st5 kp5
     have M5:=M8.fence true (rs true) M2 rfl
     have R5:=rw6 R4 kp5 own5_s og
     have k5:KO (own6 z zt sa g) H H5:=ko_5 k4 (ko6_s kp5)
     have ht5:setR rs true [] true=[]:=setR_same
     have hf5:setR rs true [] false=[]:=by rw [setR_ne (by decide)];exact hf
     generalize m1.putAll (rs true)=m5 at W5 M5
     generalize setR rs true []=rs5 at W5 M5 ht5 hf5
     clear W4 M2 R4 st5 kp5 k4 hl hnc hf hrl
     have hnf:aheadT ⟨s,R,false⟩ m5 (rs5 false) .asked .taken≠s:=by
       rw [Ne,M5.full,ht5,hAl]
       show ¬ ((kmin s n:Int) - ((kmin s n:Int) - ((0:Nat):Int))=s)
       omega
     by_cases hsn:s < (n:Int)
     · have hkm:kmin s n=s.toNat:=by unfold kmin;omega
       have hkp:kplus s n=kmin s n+1:=by unfold kplus;omega
       refine ⟨_,rfl,_,rfl,_,_,rfl,rfl,_,rfl,iteC (decide_eq_true hsn) ?_⟩
       refine ⟨_,rfl,z,sa,_,n,_,m5,rs5,5,rfl,W5.hn,W5.st,M5.ok,n9,by rw [upto_len];omega,by rw [hf5];decide,?_⟩
       have hlt:kmin s n < n:=by omega
       rw [if_neg hnf,least_upto hlt]
       intro H6 hn6 st6 kp6
       have W6:=W5.hand hn6 st6 kp6
       have M6:=M5.ask hnf (least_upto hlt) 5
       rw [← upto_succ,← hkp] at W6 M6
       have R6:=rw6 R5 kp6 own5_h og
       have k6:KO (own6 z zt sa g) H H6:=ko_5 k5 (ko6_h kp6)
       have ht6:(setR rs5 false (rs5 false++layT ⟨s,R,false⟩ m5 (rs5 false) false .asked (kmin s n:Int) 5)) true=[]:=by rw [setR_ne (by decide)];exact ht5
       have hl6:((setR rs5 false (rs5 false++layT ⟨s,R,false⟩ m5 (rs5 false) false .asked (kmin s n:Int) 5)) false).length=2:=by rw [setR_same,hf5,List.nil_append,lay_len]
       generalize setR rs5 false (rs5 false++layT ⟨s,R,false⟩ m5 (rs5 false) false .asked (kmin s n:Int) 5)=rs6 at W6 M6 ht6 hl6
       have hks:(kmin s n:Int)=s:=by omega
       refine ⟨_,rfl,_,_,.int s,rfl,by rw [hks];rfl,rfl,LayD.int _,by show 0 <= 10;decide,λH7 e7=>⟨_,rfl,iteF ?_⟩⟩
       have W7:=W6.same e7
       have R7:Rw H7 g:=R6.kp (Kp.same e7 []) (by simp)
       have k7:KO (own6 z zt sa g) H H7:=ko_5 k6 (KO.of_same e7)
       clear W6 R6 k6 W5 M5 R5 k5 e7 kp6 hn6 st6 hnf
       refine ⟨_,rfl,_,rfl,_,_,rfl,rfl,_,rfl,iteC (decide_eq_true hsn) ?_⟩
       refine ⟨_,rfl,mthE W7.st.ob (stF_no (by decide +kernel) (by decide +kernel)) ⟨sa,m5,rs6,false,rfl,W7.st,by omega,λH8 st8 kp8=>?_⟩⟩
       have W8:=W7.store st8 kp8
       have M8':=M8.fence false (rs6 false) M6 rfl
       have R8:=rw6 R7 kp8 own5_s og
       have k8:KO (own6 z zt sa g) H H8:=ko_5 k7 (ko6_s kp8)
       have ht8:setR rs6 false [] true=[]:=by rw [setR_ne (by decide)];exact ht6
       have hf8:setR rs6 false [] false=[]:=setR_same
       generalize m5.putAll (rs6 false)=m8 at W8 M8'
       generalize setR rs6 false []=rs8 at W8 M8' ht8 hf8
       clear W7 M6 R7 k7 st8 kp8 ht6 hl6
       refine ⟨_,rfl,mthE W8.tn.ob tF_take ⟨zt,sa,_,_,m8,rs8,rfl,W8.tn,W8.st,M8'.ok,by rw [upto_len];omega,by rw [ht8];decide,?_⟩⟩
       have h0:aheadT ⟨s,R,false⟩ m8 (rs8 true) .asked .taken≠0:=by
         rw [Ne,(M8'.seen.1 hf8).1,List.length_append,hAl]
         show ¬ (kmin s n=kmin s n+1)
         omega
       obtain ⟨nw,e1,e2,_,hc,hb,M9⟩:=M8'.takeR h0
       rw [if_neg h0,e2]
       intro c H9 hc9 tn9 st9 kp9
       have hnw:nw=((kmin s n:Int),5):=by
         rw [List.getElem?_append_right (by omega),hAl,Nat.sub_self] at e1
         exact (Option.some.inj e1).symm
       subst hnw
       rw [show gNext (upto (kmin s n)) (kmin s n:Int)=upto (kplus s n) by unfold gNext;rw [if_neg (by rw [hc];decide),hkp,upto_succ]] at tn9
       rw [← upto_succ,← hkp] at M9
       have W9:=W8.heart tn9 st9 kp9
       have R9:=rw6 R8 kp9 own5_t og
       have k9:KO (own6 z zt sa g) H H9:=ko_5 k8 (ko6_t kp9)
       refine ⟨_,rfl,l2,λt9 h9=>⟨_,_,.tuple [.int s,.int 5],rfl,?_,DV2 upd_same,⟨rfl,by show 1 <= 16;decide⟩,by show 1 <= 10;decide,λH10 e10=>?_⟩⟩
       · have:=DV2 (same_new (o:=.tup [V.int s,V.int 5]) h9 _ _ hc9)
         rw [hks] at this
         exact this
       · have e11:=(same_new (o:=.tup [V.int s,V.int 5]) h9).trans e10
         refine k H10 m8 _ _ (W9.same e11) M9 (by rw [List.length_append,hAl,hkp];rfl) (by rw [setR_ne (by decide)];exact hf8) (by rw [setR_same,ht8];show 1 <= 20;decide) (R9.kp (Kp.same e11 []) (by simp)) (ko_5 k9 (KO.of_same e11))
     · have hkm:kmin s n=n:=by unfold kmin;omega
       have hkp:kplus s n=kmin s n:=by unfold kplus;omega
       refine ⟨_,rfl,_,rfl,_,_,rfl,rfl,_,rfl,iteN (by rw [decide_eq_true_eq];exact hsn) ?_⟩
       refine ⟨_,rfl,_,rfl,_,_,rfl,rfl,_,rfl,iteN (by rw [decide_eq_true_eq];exact hsn) ?_⟩
       refine ⟨_,rfl,_,rfl,_,rfl,_,rfl,g,z,zt,sa,s,R,n,m5,rs5,_,_,A,[],_,0,_,rfl,W5,M5,R5,og,λb=>?_,.inr (.inl ⟨rfl,hnf,least_upto_none (by omega)⟩),λH6 S6=>?_⟩
       · cases b
         · rw [hf5];decide
         · rw [ht5];decide
       · have W6:=x5stp W5 S6 R5 og
         refine k H6 m5 rs5 A (by rw [hkp];exact W6) (by rw [hkp];exact M5) (by rw [hkp];exact hAl) hf5 (by rw [ht5];decide) S6.row (ko_5 k5 (ko6_stp S6))
end

theorem cutV_to (xs:List V) (k:Nat):cutV xs none (some (k:Int))=xs.take k:=by
 unfold cutV
 rw [HT.sIx_nat,show HT.sIx xs.length 0 none=0 from rfl,List.drop_zero,Nat.sub_zero]
 by_cases h:k <= xs.length
 · rw [Nat.min_eq_left h]
 · rw [Nat.min_eq_right (by omega),List.take_of_length_le (Nat.le_refl _),List.take_of_length_le (by omega)]
theorem kplus_if {s:Int} {n:Nat} (hs:0 < s):(if (n:Int) < s+1 then (n:Int) else s+1)=(kplus s n:Int):=by
 unfold kplus;split<;>omega
theorem rngV_upto (k:Nat):rngV 0 k=(upto k).map V.int:=by
 unfold rngV upto
 rw [List.map_map]
 refine List.map_congr_left λj _=>?_
 show V.int (0+(j:Int))=V.int (j:Int)
 rw [Int.zero_add]
theorem upto_sorted (k:Nat):(upto k).Pairwise (· <= ·):=by
 unfold upto
 rw [List.pairwise_map]
 refine List.Pairwise.imp (λh=>?_) (List.pairwise_lt_range (n:=k))
 omega
theorem upto_nodup (k:Nat):(upto k).Nodup:=by
 unfold upto
 unfold List.Nodup
 rw [List.pairwise_map]
 refine List.Pairwise.imp (λh=>?_) (List.pairwise_lt_range (n:=k))
 omega
theorem least_gap {n k:Nat} {x:Int} {un:List Int} (h0:0 <= x) (hx:x < k) (hk:k <= n) (h:∀ y,un.contains y=decide ((0 <= y/\y < k)/\y≠x)):least n un=some x:=by
 obtain ⟨i,rfl⟩:=Int.eq_ofNat_of_zero_le h0
 refine least_some (by omega) ?_ λj hj=>?_
 · rw [h];simp
 · rw [h,decide_eq_true_eq];omega
def sp_ansall (w:World) (CH CT CR CS:Addr):Sp:=λvs H Q _=>∃ (g:Addr) (z:HA) (zt:TA') (sa:SA) (s R:Int) (n:Nat) (m:Mem) (rs:Bool->List Wr) (A:List (Int × Int)),vs=[.ref g,.ref sa.x,.ref z.h,.ref zt.h,.int s,.int n]/\X5 w CH CT CR CS H z zt sa ⟨s,R,false⟩ n m rs (upto (kplus s n)) (upto (kplus s n))/\M8 s R n m rs (upto (kplus s n)) (upto (kplus s n)) A [] (kplus s n) 0/\A.length=kplus s n/\rs false=[]/\(rs true).length <= 20/\Rw H g/\¬ own5 z zt sa g/\0 < n /\
 ∀ H',Rw H' g->KO (own6 z zt sa g) H H'->Q (.bl true) H'
section
variable {P:Program} {w:World} {K:PySem.W.Frag} {mg:Str->Option Value} {base:Heap} {a:Ad} {d:Fd}
theorem ok_ansall (G:Gs K mg a d):FnOk P w K mg base CX0 14 a.law_answered_all d.law_answered_all ["well","store","hand","heart","size","names"] (sp_ansall w a.Hand a.Heart a.Ring a.Store):=by
 have c_law_draw:FnOk P w K mg base CX0 1 _ _ _ _:=ok_draw G
 have c_Store_fence:FnOk P w K mg base CX0 2 _ _ _ _:=(ok_fence G).imp λvs H Q E=>fenceT
 have c_Heart_tasks:FnOk P w K mg base CX0 1 _ _ _ _:=ok_tasks G
 have c_Hand_collect:FnOk P w K mg base CX0 7 _ _ _ _:=(ok_collect G).imp λvs H Q E=>collectT
 have c_law_asked:FnOk P w K mg base CX0 10 _ _ _ _:=ok_asked5 G
 have c_law_answered:FnOk P w K mg base CX0 10 _ _ _ _:=ok_answered5 G
 have c_law_same:FnOk P w K mg base CX0 11 _ _ _ _:=ok_same G 11
 have c_law_refused:FnOk P w K mg base CX0 13 _ _ _ _:=ok_refused5 G
 refine G.f_law_answered_all.ok sc_law_answered_all (λvs H Q E h=>?_) (λcdv A' outer s' H vs Q E hr h=>?_)
 · obtain ⟨g,z,zt,sa,s,R,n,m,rs,A,rfl,_⟩:=h
   rfl
 · obtain ⟨g,z,zt,sa,s,R,n,m,rs,A,rfl,W,M,hAl,hf,hl,Rg,og,n0,k⟩:=h
   have hu:=hu_of hr
   refine ⟨_,(@pss_cons _ _ _ _ _ (@ps_set _ _ 6 _ _ _ _ sc_law_answered_all.nd rfl (Or.inl rfl) (pe_meth0 (pv 3) G.cl_Heart G.mt_Heart_tasks c_Heart_tasks (hr.mono (by decide)) G.b_Heart_tasks .nil pass0) (by rfl) (by first | exact .inl rfl | exact .inr rfl | assumption))
     (@pss_cons _ _ _ _ _ (ps_if (pt_not (pt_val (pe_call c_law_same (hr.mono (by decide)) (by rfl) G.m_law_same G.f_law_same.kp G.b_law_same .nil pass0 (@pa_cons _ _ _ _ _ (pv 6) (@pa_cons _ _ _ _ _ (pe_callTy (call_list_rng rfl) (by rfl) G.n_list bt_list (@pa_cons _ _ _ _ _ (pe_callTy call_range1 (by rfl) G.n_range bt_range (@pa_cons _ _ _ _ _ (pe_callB (call_min2 rfl) (by rfl) G.n_min bt_min (@pa_cons _ _ _ _ _ (@pe_op _ _ _ _ _ _ _ _ op_add (pv 4) pe_int) (@pa_cons _ _ _ _ _ (pv 5) pa_nil (by rfl)) (by rfl))) pa_nil (by rfl))) pa_nil (by rfl))) pa_nil (by rfl)) (by rfl))))) (@pss_one _ _ _ (@ps_ret _ _ _ _ pe_bl)) pss_nil)
     (@pss_cut _ _ _ _ _ (ps_if (pt_cmpR op_eq (pe_call c_law_draw (hr.mono (by decide)) (by rfl) G.m_law_draw G.f_law_draw.kp G.b_law_draw .nil pass0 (@pa_cons _ _ _ _ _ (pv 0) (@pa_cons _ _ _ _ _ pe_int pa_nil (by rfl)) (by rfl))) pe_int (nomark _)) (@pss_one _ _ _ (@ps_set _ _ 6 _ _ _ _ sc_law_answered_all.nd rfl (Or.inl rfl) (pe_slrev (pv 6) (pe_un un_neg pe_int)) (by rfl) (by first | exact .inl rfl | exact .inr rfl | assumption))) pss_nil)
     (@pss_cons _ _ _ _ _ (ps_for PassesOwn.never rfl (pi_list (pe_slice sl_list (pv 6) po_none (po_some (pv 4)))) (pg_name (i:=7) sc_law_answered_all.nd rfl (Or.inl rfl)) (@pss_one _ _ _ (ps_if (pt_cmpR op_notN (pe_call c_law_answered (hr.mono (by decide)) (by rfl) G.m_law_answered G.f_law_answered.kp G.b_law_answered .nil pass0 (@pa_cons _ _ _ _ _ (pv 3) (@pa_cons _ _ _ _ _ (pv 7) (@pa_cons _ _ _ _ _ (@pe_op _ _ _ _ _ _ _ _ op_sub (pv 7) pe_int) pa_nil (by rfl)) (by rfl)) (by rfl))) pe_non (nomark _)) (@pss_one _ _ _ (@ps_ret _ _ _ _ pe_bl)) pss_nil)))
     (@pss_cons _ _ _ _ _ (ps_if (pt_not (pt_val (pe_call c_law_refused (hr.mono (by decide)) (by rfl) G.m_law_refused G.f_law_refused.kp G.b_law_refused .nil pass0 (@pa_cons _ _ _ _ _ (pv 0) (@pa_cons _ _ _ _ _ (pv 1) (@pa_cons _ _ _ _ _ (pv 2) (@pa_cons _ _ _ _ _ (pv 3) (@pa_cons _ _ _ _ _ pe_str pa_nil (by rfl)) (by rfl)) (by rfl)) (by rfl)) (by rfl))))) (@pss_one _ _ _ (@ps_ret _ _ _ _ pe_bl)) pss_nil)
     (@pss_cons _ _ _ _ _ (ps_if ((pw_and (pt_cmpR op_lt (pv 4) (pv 5) (nomark _)) (pw_and1 (pt_not (pt_val (pe_call c_law_same (hr.mono (by decide)) (by rfl) G.m_law_same G.f_law_same.kp G.b_law_same .nil pass0 (@pa_cons _ _ _ _ _ (pe_call c_law_answered (hr.mono (by decide)) (by rfl) G.m_law_answered G.f_law_answered.kp G.b_law_answered .nil pass0 (@pa_cons _ _ _ _ _ (pv 3) (@pa_cons _ _ _ _ _ (@pe_ix _ _ _ _ _ _ _ ix_list (pv 6) (pv 4) (λ_ _=>rfl)) (@pa_cons _ _ _ _ _ pe_int pa_nil (by rfl)) (by rfl)) (by rfl))) (@pa_cons _ _ _ _ _ pe_str pa_nil (by rfl)) (by rfl)))))))).pt (@pss_one _ _ _ (@ps_ret _ _ _ _ pe_bl)) pss_nil)
     (@pss_cons _ _ _ _ _ (@ps_expr _ _ _ _ (pe_meth (pv 1) G.cl_Store G.mt_Store_fence c_Store_fence (hr.mono (by decide)) G.b_Store_fence .nil pass0 (@pa_cons _ _ _ _ _ pe_int pa_nil (by rfl))) (by rfl))
     (@pss_cons _ _ _ _ _ (ps_if (pt_not (pt_val (pe_call c_law_same (hr.mono (by decide)) (by rfl) G.m_law_same G.f_law_same.kp G.b_law_same .nil pass0 (@pa_cons _ _ _ _ _ (pe_meth0 (pv 2) G.cl_Hand G.mt_Hand_collect c_Hand_collect (hr.mono (by decide)) G.b_Hand_collect .nil pass0) (@pa_cons _ _ _ _ _ (@pe_tup _ _ _ _ _ (@pa_cons _ _ _ _ _ (@pe_ix _ _ _ _ _ _ _ ix_list (pv 6) pe_int (λ_ _=>rfl)) (@pa_cons _ _ _ _ _ (@pe_op _ _ _ _ _ _ _ _ op_sub (@pe_ix _ _ _ _ _ _ _ ix_list (pv 6) pe_int (λ_ _=>rfl)) pe_int) pa_nil (by rfl)) (by rfl))) pa_nil (by rfl)) (by rfl))))) (@pss_one _ _ _ (@ps_ret _ _ _ _ pe_bl)) pss_nil)
     (@pss_cons _ _ _ _ _ (ps_if ((pw_and (pt_cmpR op_lt (pv 4) (pv 5) (nomark _)) (pw_and1 (pt_not (pt_val (pe_call c_law_same (hr.mono (by decide)) (by rfl) G.m_law_same G.f_law_same.kp G.b_law_same .nil pass0 (@pa_cons _ _ _ _ _ (pe_call c_law_answered (hr.mono (by decide)) (by rfl) G.m_law_answered G.f_law_answered.kp G.b_law_answered .nil pass0 (@pa_cons _ _ _ _ _ (pv 3) (@pa_cons _ _ _ _ _ (@pe_ix _ _ _ _ _ _ _ ix_list (pv 6) (pv 4) (λ_ _=>rfl)) (@pa_cons _ _ _ _ _ pe_int pa_nil (by rfl)) (by rfl)) (by rfl))) (@pa_cons _ _ _ _ _ pe_str pa_nil (by rfl)) (by rfl)))))))).pt (@pss_one _ _ _ (@ps_ret _ _ _ _ pe_bl)) pss_nil)
     (@pss_cons _ _ _ _ _ (@ps_expr _ _ _ _ (pe_meth (pv 1) G.cl_Store G.mt_Store_fence c_Store_fence (hr.mono (by decide)) G.b_Store_fence .nil pass0 (@pa_cons _ _ _ _ _ pe_int pa_nil (by rfl))) (by rfl))
     (@pss_cons _ _ _ _ _ (ps_if ((pw_and (pt_cmpR op_lt (pv 4) (pv 5) (nomark _)) (pw_and1 (pt_cmpR op_notN (pe_call c_law_answered (hr.mono (by decide)) (by rfl) G.m_law_answered G.f_law_answered.kp G.b_law_answered .nil pass0 (@pa_cons _ _ _ _ _ (pv 3) (@pa_cons _ _ _ _ _ (@pe_ix _ _ _ _ _ _ _ ix_list (pv 6) (pv 4) (λ_ _=>rfl)) (@pa_cons _ _ _ _ _ pe_int pa_nil (by rfl)) (by rfl)) (by rfl))) pe_non (nomark _))))).pt (@pss_one _ _ _ (@ps_ret _ _ _ _ pe_bl)) pss_nil)
     (@pss_one _ _ _ (@ps_ret _ _ _ _ (pe_call c_law_same (hr.mono (by decide)) (by rfl) G.m_law_same G.f_law_same.kp G.b_law_same .nil pass0 (@pa_cons _ _ _ _ _ (pe_call c_law_asked (hr.mono (by decide)) (by rfl) G.m_law_asked G.f_law_asked.kp G.b_law_asked .nil pass0 (@pa_cons _ _ _ _ _ (pv 2) (@pa_cons _ _ _ _ _ pe_int pa_nil (by rfl)) (by rfl))) (@pa_cons _ _ _ _ _ (@pe_ix _ _ _ _ _ _ _ ix_list (pv 6) pe_int (λ_ _=>rfl)) pa_nil (by rfl)) (by rfl)))))))))))))))),?_⟩
   have n9:=M.n9
   have s0:=M.s0
   have s8:=M.s8
   obtain ⟨kp,hkp⟩:∃ kp,kp=kplus s n:=⟨_,rfl⟩
   have hk9:kp <= 9:=by rw [hkp];unfold kplus;omega
   have hkn:kp <= n:=by rw [hkp];unfold kplus;omega
   have hk0:0 < kp:=by rw [hkp];unfold kplus;omega
   rw [← hkp] at W M hAl
   refine ⟨_,rfl,mthE W.tn.ob tF_tasks ⟨zt,sa.x,_,_,rfl,W.tn,by rw [upto_len];omega,λp1 ns1 hp1 pm1 pw1=>?_⟩⟩
   have hns:ns1=upto kp:=sort_one pm1 (List.Perm.refl _) pw1 (upto_sorted kp)
   subst hns
   have np1:¬ own6 z zt sa g p1:=λy=>by
     rcases y with y | y
     · obtain ⟨o,e,_⟩:=W.there y
       rw [hp1] at e;cases e
     · obtain ⟨rw,er,_⟩:=Rg
       rw [← y,hp1] at er;cases er
   have e1:=same_new (o:=.lst ((upto kp).map V.int)) hp1
   have v1:upd H p1 (.lst ((upto kp).map V.int)) p1=some (.lst ((upto kp).map V.int)):=upd_same
   generalize upd H p1 (.lst ((upto kp).map V.int))=H1 at e1 v1 ⊢
   refine ⟨_,rfl,_,rfl,_,_,rfl,rfl,_,rfl,s+1,n,rfl,_,rfl,λr2 hr2=>⟨r2,0,_,rfl,upd_same,?_⟩⟩
   rw [kplus_if s0,← hkp,Int.sub_zero,Int.toNat_natCast,rngV_upto]
   refine ⟨⟨by decide,by decide,by omega,by omega⟩,Nat.le_trans (show _ <= 1000 by omega) (by decide),λlq hlq=>?_⟩
   have e2:=(same_new (o:=rngO r2 0 (kp:Int)) hr2).trans (same_new (o:=.lst ((upto kp).map V.int)) hlq)
   have v2:upd (upd H1 r2 (rngO r2 0 (kp:Int))) lq (.lst ((upto kp).map V.int)) lq=some (.lst ((upto kp).map V.int)):=upd_same
   generalize upd (upd H1 r2 (rngO r2 0 (kp:Int))) lq (.lst ((upto kp).map V.int))=H2 at e2 v2 ⊢
   obtain ⟨y1,y2⟩:=ints_ok (upto kp)
   refine ⟨_,_,_,rfl,ints_dv (e2 _ _ v1),ints_dv v2,y1,y2,λH3 e3=>⟨_,rfl,iteF ?_⟩⟩
   have e4:=e1.trans (e2.trans e3)
   have W3:=W.same e4
   have R3:Rw H3 g:=Rg.kp (Kp.same e4 []) (by simp)
   have v3:=e3 _ _ (e2 _ _ v1)
   have k3:KO (own6 z zt sa g) H H3:=KO.of_same e4
   clear e1 e2 e3 e4 v1 v2 hr2 hlq y1 y2 W Rg
   refine ⟨λσ' H'=>∃ (lt:Addr) (ts:List Int),σ'=[some (.ref g),some (.ref sa.x),some (.ref z.h),some (.ref zt.h),some (.int s),some (.int n),some (.ref lt),none]/\H' lt=some (.lst (ts.map V.int))/\ts.Perm (upto kp)/\¬ own6 z zt sa g lt/\X5 w a.Hand a.Heart a.Ring a.Store H' z zt sa ⟨s,R,false⟩ n m rs (upto kp) (upto kp)/\Rw H' g/\KO (own6 z zt sa g) H H',?_,?_⟩
   · refine ⟨_,rfl,g,2,rfl,R3,by decide,by decide,λd4 H4 _ _ S4=>⟨rfl,_,rfl,?_⟩⟩
     have W4:=x5stp W3 S4 R3 og
     have v4:=S4.keep _ _ (λy=>np1 (.inr y)) v3
     have k4:KO (own6 z zt sa g) H H4:=ko_5 k3 (ko6_stp S4)
     by_cases hd:V.int d4=V.int 0
     · refine iteC (decide_eq_true hd) ?_
       refine ⟨_,rfl,_,rfl,rfl,p1,_,rfl,SqL.of v4,λp5 hp5=>?_⟩
       have e5:=same_new (o:=.lst ((upto kp).map V.int).reverse) hp5
       have np5:¬ own6 z zt sa g p5:=λy=>by
         rcases y with y | y
         · obtain ⟨o,e,_⟩:=W4.there y
           rw [hp5] at e;cases e
         · obtain ⟨rw,er,_⟩:=S4.row
           rw [← y,hp5] at er;cases er
       exact ⟨p5,(upto kp).reverse,rfl,by rw [upd_same,List.map_reverse],List.reverse_perm _,np5,W4.same e5,S4.row.kp (Kp.same e5 []) (by simp),ko_5 k4 (KO.of_same e5)⟩
     · exact iteN (by rw [decide_eq_true_eq];exact hd) ⟨p1,upto kp,rfl,v4,List.Perm.refl _,np1,W4,S4.row,k4⟩
   · clear W3 R3 v3 k3 np1 hp1 pm1 pw1
     rintro σ' H4 ⟨lt,ts,rfl,vt,pmt,nt,W4,R4,k4⟩
     have tsl:ts.length=kp:=by rw [pmt.length_eq,upto_len]
     have tsn:ts.Nodup:=pmt.nodup_iff.mpr (upto_nodup kp)
     have tsm:∀ x∈ts,0 <= x/\x < kp:=λx hx=>upto_mem.mp (pmt.mem_iff.mp hx)
     obtain ⟨sn,rfl⟩:=Int.eq_ofNat_of_zero_le (show 0 <= s by omega)
     refine ⟨_,rfl,_,rfl,_,rfl,lt,_,rfl,SqL.of vt,λp5 hp5=>⟨p5,rfl,⟨_,SqL.of upd_same⟩,?_⟩⟩
     have e5:=same_new (o:=.lst (cutV (ts.map V.int) none (some (sn:Int)))) hp5
     rw [cutV_to,← List.map_take] at e5 ⊢
     have np5:¬ own6 z zt sa g p5:=λy=>by
       rcases y with y | y
       · obtain ⟨o,e,_⟩:=W4.there y
         rw [hp5] at e;cases e
       · obtain ⟨rw,er,_⟩:=R4
         rw [← y,hp5] at er;cases er
     have v5:upd H4 p5 (.lst ((ts.take sn).map V.int)) p5=some (.lst ((ts.take sn).map V.int)):=upd_same
     have vt5:=e5 _ _ vt
     have W5:=W4.same e5
     have R5:Rw (upd H4 p5 (.lst ((ts.take sn).map V.int))) g:=R4.kp (Kp.same e5 []) (by simp)
     have k5:KO (own6 z zt sa g) H (upd H4 p5 (.lst ((ts.take sn).map V.int))):=ko_5 k4 (KO.of_same e5)
     generalize upd H4 p5 (.lst ((ts.take sn).map V.int))=H5 at e5 v5 vt5 W5 R5 k5 ⊢
     clear W4 R4 k4 vt hp5 e5
     refine for_list (K:=K) (a:=p5) (xs:=(ts.take sn).map V.int) (λj σ H'=>∃ rs tk,(∃ v7,σ=[some (.ref g),some (.ref sa.x),some (.ref z.h),some (.ref zt.h),some (.int sn),some (.int n),some (.ref lt),v7])/\X5 w a.Hand a.Heart a.Ring a.Store H' z zt sa ⟨sn,R,false⟩ n m rs (upto kp) tk/\M8 sn R n m rs (upto kp) tk A ((ts.take j).map λx=>(x,x - 3)) kp 0/\tk.Perm (ts.drop j)/\rs false=[]/\(rs true).length <= 20+2 * j/\Rw H' g/\KO (own6 z zt sa g) H H'/\H' lt=some (.lst (ts.map V.int))/\H' p5=some (.lst ((ts.take sn).map V.int)))
       ⟨rs,_,⟨_,rfl⟩,W5,M,pmt.symm,hf,by omega,R5,k5,vt5,v5⟩ (λ_ _ _ _ ⟨_,_,_,_,_,_,_,_,_,_,_,y⟩=>SqL.of y) ?_ ?_
     · clear W5 M R5 k5 vt5 v5 hf hl k
       clear rs H4 H5
       rintro j y σ H5 hj ⟨rs,tk,⟨v7,rfl⟩,W5,M5,pm5,hf,hl,R5,k5,vt5,v5⟩
       rw [List.getElem?_map] at hj
       obtain ⟨x,hx,rfl⟩:=Option.map_eq_some_iff.mp hj
       have hjl:=(List.getElem?_eq_some_iff.mp hx).1
       rw [List.length_take,tsl] at hjl
       have hx':ts[j]?=some x:=by rw [List.getElem?_take_of_lt (by omega)] at hx;exact hx
       have hd:ts.drop j=x :: ts.drop (j+1):=by
         rw [List.drop_eq_getElem_cons (by omega)]
         rw [List.getElem?_eq_getElem (by omega)] at hx'
         rw [Option.some.inj hx']
       rw [hd] at pm5
       have hm:x∈tk:=pm5.mem_iff.mpr List.mem_cons_self
       have hBl:((ts.take j).map λx=>(x,x - 3)).length=j:=by rw [List.length_map,List.length_take,tsl];omega
       refine ⟨_,rfl,_,rfl,_,rfl,_,_,rfl,rfl,zt,sa,_,tk,m,rs,x,x - 3,rfl,W5.tn,W5.st,M5.ok,by omega,λy hy=>M5.tkd.2 y hy,?_⟩
       have hnf:aheadT ⟨sn,R,false⟩ m (rs true) .answered .handed≠sn:=by
         rw [Ne,(M5.seen.1 hf).2,hBl];omega
       rw [if_neg (by rw [List.contains_eq_mem,decide_eq_true hm];decide),if_neg hnf]
       intro H6 tn6 st6 kp6
       rw [← M5.tkd.erase_eq] at tn6
       have W6:=W5.heart tn6 st6 kp6
       have M6:=M5.answer hm hnf (x - 3)
       refine ⟨rfl,_,rfl,iteN (by decide) ?_⟩
       have nn:∀ {c:Addr},¬ own6 z zt sa g c->c ∉ [zt.gd,sa.l true]:=λh mm=>h (.inl (own5_t _ mm))
       refine ⟨_,_,⟨_,rfl⟩,W6,?_,?_,by rw [setR_ne (by decide)];exact hf,by rw [setR_same,List.length_append,lay_len];omega,rw6 R5 kp6 own5_t og,ko_5 k5 (ko6_t kp6),kp6 _ _ (nn nt) vt5,kp6 _ _ (nn np5) v5⟩
       · rw [List.take_succ,hx',List.map_append];exact M6
       · have:=pm5.erase x
         rw [List.erase_cons_head] at this
         exact this
     · clear W5 M R5 k5 vt5 v5 hf hl
       clear rs H4 H5
       rintro σ H5 ⟨rs,tk,⟨v7,rfl⟩,W5,M5,pm5,hf,hl,R5,k5,vt5,v5⟩
       rw [List.length_map,List.length_take,tsl] at M5 pm5 hl
       have hrl:∀ b,(rs b).length < 9000:=λb=>by
         cases b
         · rw [hf];show 0 < 9000;decide
         · omega
       refine ⟨_,rfl,_,rfl,_,rfl,_,rfl,g,z,zt,sa,sn,R,n,m,rs,_,_,A,_,_,0,_,rfl,W5,M5,R5,og,hrl,.inr (.inr rfl),λH6 S6=>⟨_,rfl,iteF ?_⟩⟩
       have W6:=x5stp W5 S6 R5 og
       have R6:=S6.row
       have k6:KO (own6 z zt sa g) H H6:=ko_5 k5 (ko6_stp S6)
       have vt6:=S6.keep _ _ (λy=>nt (.inr y)) vt5
       clear W5 R5 k5 vt5 v5 S6
       obtain ⟨x0,hx0⟩:∃ x0,ts[0]?=some x0:=⟨_,List.getElem?_eq_getElem (by omega)⟩
       have hx0m:=tsm x0 (List.mem_of_getElem? hx0)
       have at0:atI (ts.map V.int) 0=some (.int x0):=atI_at (j:=0) (by rw [List.getElem?_map,hx0];rfl)
       have hB0:((ts.take (min sn kp)).map λx=>(x,x - 3))[0]?=some (x0,x0 - 3):=by
         rw [List.getElem?_map,List.getElem?_take_of_lt (by omega),hx0];rfl
       have hBl:((ts.take (min sn kp)).map λx=>(x,x - 3)).length=min sn kp:=by rw [List.length_map,List.length_take,tsl];omega
       generalize (ts.take (min sn kp)).map (λx=>(x,x - 3))=B at M5 hB0 hBl
       have hgap:∀ y,((upto kp).erase x0).contains y=decide ((0 <= y/\y < kp)/\y≠x0):=λy=>by
         rw [List.contains_eq_mem,decide_eq_decide,List.Nodup.mem_erase_iff (upto_nodup kp),upto_mem]
         exact and_comm
       have nnS:∀ {c:Addr} {b:Bool},¬ own6 z zt sa g c->c ∉ [sa.l b,sa.hd]:=λh mm=>h (.inl (own5_s _ mm))
       have nnH:∀ {c:Addr},¬ own6 z zt sa g c->c ∉ [z.gd,sa.l false]:=λh mm=>h (.inl (own5_h _ mm))
       have nnT:∀ {c:Addr},¬ own6 z zt sa g c->c ∉ [zt.gd,sa.l true]:=λh mm=>h (.inl (own5_t _ mm))
       by_cases hsn:(sn:Int) < (n:Int)
       · have hkp1:kp=sn+1:=by rw [hkp];unfold kplus;omega
         have hmin:min sn kp=sn:=by omega
         rw [hmin] at pm5 hBl
         obtain ⟨x1,hx1⟩:∃ x1,ts[sn]?=some x1:=⟨_,List.getElem?_eq_getElem (by omega)⟩
         have at1:atI (ts.map V.int) (sn:Int)=some (.int x1):=atI_at (by rw [List.getElem?_map,hx1];rfl)
         have hx1m:x1∈tk:=pm5.mem_iff.mpr (by
           rw [List.drop_eq_getElem_cons (by omega)]
           rw [List.getElem?_eq_getElem (by omega)] at hx1
           rw [Option.some.inj hx1];exact List.mem_cons_self)
         have hfull:aheadT ⟨sn,R,false⟩ m (rs true) .answered .handed=sn:=(M5.seen.1 hf).2.mpr (by rw [hBl];simp)
         refine ⟨_,rfl,_,rfl,_,_,rfl,rfl,_,rfl,iteC (decide_eq_true hsn) ?_⟩
         refine ⟨_,rfl,_,rfl,_,rfl,lt,_,_,_,rfl,rfl,SqL.of vt6,at1,zt,sa,_,tk,m,rs,x1,7,rfl,W6.tn,W6.st,M5.ok,by omega,λy hy=>M5.tkd.2 y hy,?_⟩
         rw [if_neg (by rw [List.contains_eq_mem,decide_eq_true hx1m];decide),if_pos hfull]
         refine λH7 e7=>⟨_,_,.str "full",rfl,rfl,rfl,layStr (by decide +kernel),by show 0 <= 10;decide,λH8 e8=>⟨_,rfl,iteF ?_⟩⟩
         have e9:=e7.trans e8
         have W8:=W6.same e9
         have R8:Rw H8 g:=R6.kp (Kp.same e9 []) (by simp)
         have k8:KO (own6 z zt sa g) H H8:=ko_5 k6 (KO.of_same e9)
         have vt8:=e9 _ _ vt6
         clear W6 R6 k6 vt6 e7 e8 e9
         refine ⟨_,rfl,mthE W8.st.ob (stF_no (by decide +kernel) (by decide +kernel)) ⟨sa,m,rs,true,rfl,W8.st,by omega,λH9 st9 kp9=>?_⟩⟩
         have W9:=W8.store st9 kp9
         have M9:=M8.fence true (rs true) M5 rfl
         have R9:=rw6 R8 kp9 own5_s og
         have k9:KO (own6 z zt sa g) H H9:=ko_5 k8 (ko6_s kp9)
         have vt9:=kp9 _ _ (nnS nt) vt8
         have ht9:setR rs true [] true=[]:=setR_same
         have hf9:setR rs true [] false=[]:=by rw [setR_ne (by decide)];exact hf
         generalize m.putAll (rs true)=m9 at W9 M9
         generalize setR rs true []=rs9 at W9 M9 ht9 hf9
         clear W8 M5 R8 st9 kp9 k8 vt8 hl hf hrl hfull
         refine ⟨_,rfl,mthE W9.hn.ob hF_collect ⟨z,sa,_,n,_,m9,rs9,rfl,W9.hn,W9.st,M9.ok,by rw [hf9];decide,?_⟩⟩
         have h0:aheadT ⟨sn,R,false⟩ m9 (rs9 false) .answered .handed≠0:=by
           rw [Ne,M9.seen.2 ht9,hBl];omega
         obtain ⟨nw,e1,e2,_,_,M10⟩:=M9.collectR h0
         rw [if_neg h0,e2]
         intro c H10 hc10 hn10 st10 kp10
         rw [hB0] at e1
         cases e1
         rw [← M9.und.erase_eq] at hn10
         have W10:=W9.hand hn10 st10 kp10
         have R10:=rw6 R9 kp10 own5_h og
         have k10:KO (own6 z zt sa g) H H10:=ko_5 k9 (ko6_h kp10)
         have vt10:=kp10 _ _ (nnH nt) vt9
         have ht10:(setR rs9 false (rs9 false++[nextT ⟨sn,R,false⟩ m9 (rs9 false) .handed])) true=[]:=by rw [setR_ne (by decide)];exact ht9
         have hf10:nC .handed ((setR rs9 false (rs9 false++[nextT ⟨sn,R,false⟩ m9 (rs9 false) .handed])) false)=1:=by rw [setR_same,nC_snoc,hf9];rfl
         have hl10:((setR rs9 false (rs9 false++[nextT ⟨sn,R,false⟩ m9 (rs9 false) .handed])) false).length=1:=by rw [setR_same,hf9];rfl
         generalize setR rs9 false (rs9 false++[nextT ⟨sn,R,false⟩ m9 (rs9 false) .handed])=rs10 at W10 M10 ht10 hf10 hl10
         clear W9 M9 R9 k9 vt9 hn10 st10 kp10 ht9 hf9 h0
         refine ⟨_,rfl,lt,_,_,_,rfl,rfl,SqL.of vt10,at0,_,rfl,lt,_,_,_,rfl,rfl,SqL.of vt10,at0,_,_,rfl,rfl,l2,λt11 h11=>⟨_,_,.tuple [.int x0,.int (x0 - 3)],rfl,DV2 (same_new h11 _ _ hc10),DV2 upd_same,⟨rfl,by show 1 <= 16;decide⟩,by show 1 <= 10;decide,λH11 e11=>⟨_,rfl,iteF ?_⟩⟩⟩
         have e12:=(same_new (o:=.tup [V.int x0,V.int (x0 - 3)]) h11).trans e11
         have W11:=W10.same e12
         have R11:Rw H11 g:=R10.kp (Kp.same e12 []) (by simp)
         have k11:KO (own6 z zt sa g) H H11:=ko_5 k10 (KO.of_same e12)
         have vt11:=e12 _ _ vt10
         clear W10 R10 k10 vt10 e12 e11 h11 hc10
         refine ⟨_,rfl,_,rfl,_,_,rfl,rfl,_,rfl,iteC (decide_eq_true hsn) ?_⟩
         refine ⟨_,rfl,_,rfl,_,rfl,lt,_,_,_,rfl,rfl,SqL.of vt11,at1,zt,sa,_,tk,m9,rs10,x1,7,rfl,W11.tn,W11.st,M10.ok,by rw [ht10];decide,λy hy=>M10.tkd.2 y hy,?_⟩
         have hfull:aheadT ⟨sn,R,false⟩ m9 (rs10 true) .answered .handed=sn:=M10.full2.mpr (by rw [hBl,hf10];simp)
         rw [if_neg (by rw [List.contains_eq_mem,decide_eq_true hx1m];decide),if_pos hfull]
         refine λH12 e12=>⟨_,_,.str "full",rfl,rfl,rfl,layStr (by decide +kernel),by show 0 <= 10;decide,λH13 e13=>⟨_,rfl,iteF ?_⟩⟩
         have e14:=e12.trans e13
         have W13:=W11.same e14
         have R13:Rw H13 g:=R11.kp (Kp.same e14 []) (by simp)
         have k13:KO (own6 z zt sa g) H H13:=ko_5 k11 (KO.of_same e14)
         have vt13:=e14 _ _ vt11
         clear W11 R11 k11 vt11 e12 e13 e14 hfull
         refine ⟨_,rfl,mthE W13.st.ob (stF_no (by decide +kernel) (by decide +kernel)) ⟨sa,m9,rs10,false,rfl,W13.st,by omega,λH14 st14 kp14=>?_⟩⟩
         have W14:=W13.store st14 kp14
         have M14:=M8.fence false (rs10 false) M10 rfl
         have R14:=rw6 R13 kp14 own5_s og
         have k14:KO (own6 z zt sa g) H H14:=ko_5 k13 (ko6_s kp14)
         have vt14:=kp14 _ _ (nnS nt) vt13
         have ht14:setR rs10 false [] true=[]:=by rw [setR_ne (by decide)];exact ht10
         have hf14:setR rs10 false [] false=[]:=setR_same
         generalize m9.putAll (rs10 false)=m14 at W14 M14
         generalize setR rs10 false []=rs14 at W14 M14 ht14 hf14
         clear W13 M10 R13 st14 kp14 k13 vt13 hf10 hl10 ht10
         refine ⟨_,rfl,_,rfl,_,_,rfl,rfl,_,rfl,iteC (decide_eq_true hsn) ?_⟩
         refine ⟨_,rfl,_,rfl,_,rfl,lt,_,_,_,rfl,rfl,SqL.of vt14,at1,zt,sa,_,tk,m14,rs14,x1,7,rfl,W14.tn,W14.st,M14.ok,by rw [ht14];decide,λy hy=>M14.tkd.2 y hy,?_⟩
         have hnf:aheadT ⟨sn,R,false⟩ m14 (rs14 true) .answered .handed≠sn:=by
           rw [Ne,(M14.seen.1 hf14).2,hBl];omega
         rw [if_neg (by rw [List.contains_eq_mem,decide_eq_true hx1m];decide),if_neg hnf]
         intro H15 tn15 st15 kp15
         rw [← M14.tkd.erase_eq] at tn15
         have W15:=W14.heart tn15 st15 kp15
         have M15:=M14.answer hx1m hnf 7
         have R15:=rw6 R14 kp15 own5_t og
         have k15:KO (own6 z zt sa g) H H15:=ko_5 k14 (ko6_t kp15)
         have vt15:=kp15 _ _ (nnT nt) vt14
         refine ⟨rfl,_,rfl,iteN (by decide) ?_⟩
         refine ⟨_,rfl,z,sa,_,n,_,m14,_,6,rfl,W15.hn,W15.st,M15.ok,n9,?_,by rw [setR_ne (by decide),hf14];decide,?_⟩
         · have:=List.length_erase_le (a:=x0) (l:=upto kp)
           rw [upto_len] at this
           show ((upto kp).erase x0).length < 1000
           omega
         have hnf2:aheadT ⟨sn,R,false⟩ m14 ((setR rs14 true (rs14 true++layT ⟨sn,R,false⟩ m14 (rs14 true) true .answered x1 7)) false) .asked .taken≠sn:=by
           rw [Ne,M15.full,setR_same,nC_app,ht14,hAl]
           show ¬ ((kp:Int) - ((kp:Int) - ((0+0:Nat):Int))=sn)
           omega
         rw [if_neg hnf2,least_gap hx0m.1 hx0m.2 hkn hgap]
         intro H16 hn16 st16 kp16
         refine ⟨_,rfl,lt,_,_,_,rfl,rfl,SqL.of (kp16 _ _ (nnH nt) vt15),at0,_,_,.int x0,rfl,rfl,rfl,LayD.int _,by show 0 <= 10;decide,λH17 e17=>k H17 ((rw6 R15 kp16 own5_h og).kp (Kp.same e17 []) (by simp)) (ko_5 k15 (ko_5 (ko6_h kp16) (KO.of_same e17)))⟩
       · have hkp1:kp=n:=by rw [hkp];unfold kplus;omega
         have hmin:min sn kp=kp:=by omega
         rw [hmin] at hBl
         refine ⟨_,rfl,_,rfl,_,_,rfl,rfl,_,rfl,iteN (by rw [decide_eq_true_eq];exact hsn) ?_⟩
         refine ⟨_,rfl,mthE W6.st.ob (stF_no (by decide +kernel) (by decide +kernel)) ⟨sa,m,rs,true,rfl,W6.st,by omega,λH9 st9 kp9=>?_⟩⟩
         have W9:=W6.store st9 kp9
         have M9:=M8.fence true (rs true) M5 rfl
         have R9:=rw6 R6 kp9 own5_s og
         have k9:KO (own6 z zt sa g) H H9:=ko_5 k6 (ko6_s kp9)
         have vt9:=kp9 _ _ (nnS nt) vt6
         have ht9:setR rs true [] true=[]:=setR_same
         have hf9:setR rs true [] false=[]:=by rw [setR_ne (by decide)];exact hf
         generalize m.putAll (rs true)=m9 at W9 M9
         generalize setR rs true []=rs9 at W9 M9 ht9 hf9
         clear W6 M5 R6 st9 kp9 k6 vt6 hl hf hrl
         refine ⟨_,rfl,mthE W9.hn.ob hF_collect ⟨z,sa,_,n,_,m9,rs9,rfl,W9.hn,W9.st,M9.ok,by rw [hf9];decide,?_⟩⟩
         have h0:aheadT ⟨sn,R,false⟩ m9 (rs9 false) .answered .handed≠0:=by
           rw [Ne,M9.seen.2 ht9,hBl];omega
         obtain ⟨nw,e1,e2,_,_,M10⟩:=M9.collectR h0
         rw [if_neg h0,e2]
         intro c H10 hc10 hn10 st10 kp10
         rw [hB0] at e1
         cases e1
         rw [← M9.und.erase_eq] at hn10
         have W10:=W9.hand hn10 st10 kp10
         have R10:=rw6 R9 kp10 own5_h og
         have k10:KO (own6 z zt sa g) H H10:=ko_5 k9 (ko6_h kp10)
         have vt10:=kp10 _ _ (nnH nt) vt9
         have ht10:(setR rs9 false (rs9 false++[nextT ⟨sn,R,false⟩ m9 (rs9 false) .handed])) true=[]:=by rw [setR_ne (by decide)];exact ht9
         have hf10:nC .handed ((setR rs9 false (rs9 false++[nextT ⟨sn,R,false⟩ m9 (rs9 false) .handed])) false)=1:=by rw [setR_same,nC_snoc,hf9];rfl
         have hl10:((setR rs9 false (rs9 false++[nextT ⟨sn,R,false⟩ m9 (rs9 false) .handed])) false).length=1:=by rw [setR_same,hf9];rfl
         generalize setR rs9 false (rs9 false++[nextT ⟨sn,R,false⟩ m9 (rs9 false) .handed])=rs10 at W10 M10 ht10 hf10 hl10
         clear W9 M9 R9 k9 vt9 hn10 st10 kp10 ht9 hf9 h0
         refine ⟨_,rfl,lt,_,_,_,rfl,rfl,SqL.of vt10,at0,_,rfl,lt,_,_,_,rfl,rfl,SqL.of vt10,at0,_,_,rfl,rfl,l2,λt11 h11=>⟨_,_,.tuple [.int x0,.int (x0 - 3)],rfl,DV2 (same_new h11 _ _ hc10),DV2 upd_same,⟨rfl,by show 1 <= 16;decide⟩,by show 1 <= 10;decide,λH11 e11=>⟨_,rfl,iteF ?_⟩⟩⟩
         have e12:=(same_new (o:=.tup [V.int x0,V.int (x0 - 3)]) h11).trans e11
         have W11:=W10.same e12
         have R11:Rw H11 g:=R10.kp (Kp.same e12 []) (by simp)
         have k11:KO (own6 z zt sa g) H H11:=ko_5 k10 (KO.of_same e12)
         have vt11:=e12 _ _ vt10
         clear W10 R10 k10 vt10 e12 e11 h11 hc10
         refine ⟨_,rfl,_,rfl,_,_,rfl,rfl,_,rfl,iteN (by rw [decide_eq_true_eq];exact hsn) ?_⟩
         refine ⟨_,rfl,mthE W11.st.ob (stF_no (by decide +kernel) (by decide +kernel)) ⟨sa,m9,rs10,false,rfl,W11.st,by omega,λH14 st14 kp14=>?_⟩⟩
         have W14:=W11.store st14 kp14
         have M14:=M8.fence false (rs10 false) M10 rfl
         have R14:=rw6 R11 kp14 own5_s og
         have k14:KO (own6 z zt sa g) H H14:=ko_5 k11 (ko6_s kp14)
         have vt14:=kp14 _ _ (nnS nt) vt11
         have ht14:setR rs10 false [] true=[]:=by rw [setR_ne (by decide)];exact ht10
         have hf14:setR rs10 false [] false=[]:=setR_same
         generalize m9.putAll (rs10 false)=m14 at W14 M14
         generalize setR rs10 false []=rs14 at W14 M14 ht14 hf14
         clear W11 M10 R11 st14 kp14 k11 vt11 hf10 hl10 ht10
         refine ⟨_,rfl,_,rfl,_,_,rfl,rfl,_,rfl,iteN (by rw [decide_eq_true_eq];exact hsn) ?_⟩
         refine ⟨_,rfl,z,sa,_,n,_,m14,rs14,6,rfl,W14.hn,W14.st,M14.ok,n9,?_,by rw [hf14];decide,?_⟩
         · have:=List.length_erase_le (a:=x0) (l:=upto kp)
           rw [upto_len] at this
           show ((upto kp).erase x0).length < 1000
           omega
         have hnf2:aheadT ⟨sn,R,false⟩ m14 (rs14 false) .asked .taken≠sn:=by
           rw [Ne,M14.full,ht14,hAl]
           show ¬ ((kp:Int) - ((kp:Int) - ((0:Nat):Int))=sn)
           omega
         rw [if_neg hnf2,least_gap hx0m.1 hx0m.2 hkn hgap]
         intro H16 hn16 st16 kp16
         refine ⟨_,rfl,lt,_,_,_,rfl,rfl,SqL.of (kp16 _ _ (nnH nt) vt14),at0,_,_,.int x0,rfl,rfl,rfl,LayD.int _,by show 0 <= 10;decide,λH17 e17=>k H17 ((rw6 R14 kp16 own5_h og).kp (Kp.same e17 []) (by simp)) (ko_5 k14 (ko_5 (ko6_h kp16) (KO.of_same e17)))⟩
end

def sp_law (K:PySem.W.Frag):Sp:=λvs H Q _=>∃ (b:Addr) (ns:List Int),vs=[.ref b]/\SqL K H b (ns.map V.int)/\ns.length <= 63/\∀ H',Q (.bl true) H'
section
variable {P:Program} {w:World} {K:PySem.W.Frag} {mg:Str->Option Value} {base:Heap} {a:Ad} {d:Fd}
theorem ok_law (G:Gs K mg a d):FnOk P w K mg base CX0 17 a.law d.law ["script"] (sp_law K):=by
 have c_law_well:FnOk P w K mg base CX0 1 _ _ _ _:=ok_well G
 have c_law_draw:FnOk P w K mg base CX0 1 _ _ _ _:=ok_draw G
 have c_law_size:FnOk P w K mg base CX0 2 _ _ _ _:=ok_size G
 have c_law_names:FnOk P w K mg base CX0 2 _ _ _ _:=ok_names G
 have c_Store__init:FnOk P w K mg base CX0 1 _ _ _ _:=(ok_init G).imp λvs H Q E=>initT
 have c_Hand__init:FnOk P w K mg base CX0 4 _ _ _ _:=ok_hinit G
 have c_Heart__init:FnOk P w K mg base CX0 4 _ _ _ _:=ok_tinit G
 have c_law_all_asked:FnOk P w K mg base CX0 14 _ _ _ _:=ok_aa G
 have c_law_asked_again:FnOk P w K mg base CX0 14 _ _ _ _:=ok_again G
 have c_law_answered_all:FnOk P w K mg base CX0 14 _ _ _ _:=ok_ansall G
 refine G.f_law.ok sc_law (λvs H Q E h=>?_) (λcdv A' outer s' H vs Q E hr h=>?_)
 · obtain ⟨l,ns,rfl,_⟩:=h
   rfl
 · obtain ⟨l,ns,rfl,hS,hlen,k⟩:=h
   have hu:=hu_of hr
   refine ⟨_,(@pss_cons _ _ _ _ _ (ps_for PassesOwn.never rfl (pi_list (@pe_op _ _ _ _ _ _ _ _ op_cat (@pe_lst _ _ _ _ (@pa_cons _ _ _ _ _ pe_int (@pa_cons _ _ _ _ _ pe_int (@pa_cons _ _ _ _ _ pe_int pa_nil (by rfl)) (by rfl)) (by rfl))) (pe_slice sl_list (pv 0) po_none (po_some pe_int)))) (pg_name (i:=1) sc_law.nd rfl (Or.inl rfl)) (@pss_cons _ _ _ _ _ (@ps_set _ _ 2 _ _ _ _ sc_law.nd rfl (Or.inl rfl) (pe_call c_law_well (hr.mono (by decide)) (by rfl) G.m_law_well G.f_law_well.kp G.b_law_well .nil pass0 (@pa_cons _ _ _ _ _ (pv 1) pa_nil (by rfl))) (by rfl) (by first | exact .inl rfl | exact .inr rfl | assumption))
     (@pss_cons _ _ _ _ _ (@ps_set _ _ 3 _ _ _ _ sc_law.nd rfl (Or.inl rfl) (pe_call c_law_size (hr.mono (by decide)) (by rfl) G.m_law_size G.f_law_size.kp G.b_law_size .nil pass0 (@pa_cons _ _ _ _ _ (pv 2) pa_nil (by rfl))) (by rfl) (by first | exact .inl rfl | exact .inr rfl | assumption))
     (@pss_cons _ _ _ _ _ (@ps_set _ _ 4 _ _ _ _ sc_law.nd rfl (Or.inl rfl) (@pe_op _ _ _ _ _ _ _ _ op_add pe_int (pe_call c_law_draw (hr.mono (by decide)) (by rfl) G.m_law_draw G.f_law_draw.kp G.b_law_draw .nil pass0 (@pa_cons _ _ _ _ _ (pv 2) (@pa_cons _ _ _ _ _ pe_int pa_nil (by rfl)) (by rfl)))) (by rfl) (by first | exact .inl rfl | exact .inr rfl | assumption))
     (@pss_cons _ _ _ _ _ (@ps_set _ _ 5 _ _ _ _ sc_law.nd rfl (Or.inl rfl) (pe_call c_law_names (hr.mono (by decide)) (by rfl) G.m_law_names G.f_law_names.kp G.b_law_names .nil pass0 (@pa_cons _ _ _ _ _ (pv 2) pa_nil (by rfl))) (by rfl) (by first | exact .inl rfl | exact .inr rfl | assumption))
     (@pss_cons _ _ _ _ _ (@ps_set _ _ 6 _ _ _ _ sc_law.nd rfl (Or.inl rfl) (pe_make0 G.k_Store c_Store__init (hr.mono (by decide)) (by rfl) G.m_Store G.b_Store__init .nil pass0) (by rfl) (by first | exact .inl rfl | exact .inr rfl | assumption))
     (@pss_cons _ _ _ _ _ (@ps_set _ _ 7 _ _ _ _ sc_law.nd rfl (Or.inl rfl) (pe_make G.k_Hand c_Hand__init (hr.mono (by decide)) (by rfl) G.m_Hand G.b_Hand__init .nil pass0 (@pa_cons _ _ _ _ _ (pv 6) (@pa_cons _ _ _ _ _ (pv 3) (@pa_cons _ _ _ _ _ (pv 4) (@pa_cons _ _ _ _ _ (pv 5) (@pa_cons _ _ _ _ _ (@pe_tup _ _ _ _ _ pa_nil) pa_nil (by rfl)) (by rfl)) (by rfl)) (by rfl)) (by rfl))) (by rfl) (by first | exact .inl rfl | exact .inr rfl | assumption))
     (@pss_cons _ _ _ _ _ (@ps_set _ _ 8 _ _ _ _ sc_law.nd rfl (Or.inl rfl) (pe_make G.k_Heart c_Heart__init (hr.mono (by decide)) (by rfl) G.m_Heart G.b_Heart__init .nil pass0 (@pa_cons _ _ _ _ _ (pv 6) (@pa_cons _ _ _ _ _ (pv 3) (@pa_cons _ _ _ _ _ (pv 4) (@pa_cons _ _ _ _ _ (@pe_tup _ _ _ _ _ pa_nil) pa_nil (by rfl)) (by rfl)) (by rfl)) (by rfl))) (by rfl) (by first | exact .inl rfl | exact .inr rfl | assumption))
     (@pss_cons _ _ _ _ _ (ps_if (pt_not (pt_val (pe_call c_law_all_asked (hr.mono (by decide)) (by rfl) G.m_law_all_asked G.f_law_all_asked.kp G.b_law_all_asked .nil pass0 (@pa_cons _ _ _ _ _ (pv 2) (@pa_cons _ _ _ _ _ (pv 6) (@pa_cons _ _ _ _ _ (pv 7) (@pa_cons _ _ _ _ _ (pv 8) (@pa_cons _ _ _ _ _ (pv 3) (@pa_cons _ _ _ _ _ (pv 5) pa_nil (by rfl)) (by rfl)) (by rfl)) (by rfl)) (by rfl)) (by rfl))))) (@pss_one _ _ _ (@ps_ret _ _ _ _ pe_bl)) pss_nil)
     (@pss_cons _ _ _ _ _ (ps_if (pt_not (pt_val (pe_call c_law_asked_again (hr.mono (by decide)) (by rfl) G.m_law_asked_again G.f_law_asked_again.kp G.b_law_asked_again .nil pass0 (@pa_cons _ _ _ _ _ (pv 2) (@pa_cons _ _ _ _ _ (pv 6) (@pa_cons _ _ _ _ _ (pv 7) (@pa_cons _ _ _ _ _ (pv 8) (@pa_cons _ _ _ _ _ (pv 3) (@pa_cons _ _ _ _ _ (pv 5) pa_nil (by rfl)) (by rfl)) (by rfl)) (by rfl)) (by rfl)) (by rfl))))) (@pss_one _ _ _ (@ps_ret _ _ _ _ pe_bl)) pss_nil)
     (@pss_one _ _ _ (ps_if (pt_not (pt_val (pe_call c_law_answered_all (hr.mono (by decide)) (by rfl) G.m_law_answered_all G.f_law_answered_all.kp G.b_law_answered_all .nil pass0 (@pa_cons _ _ _ _ _ (pv 2) (@pa_cons _ _ _ _ _ (pv 6) (@pa_cons _ _ _ _ _ (pv 7) (@pa_cons _ _ _ _ _ (pv 8) (@pa_cons _ _ _ _ _ (pv 3) (@pa_cons _ _ _ _ _ (pv 5) pa_nil (by rfl)) (by rfl)) (by rfl)) (by rfl)) (by rfl)) (by rfl))))) (@pss_one _ _ _ (@ps_ret _ _ _ _ pe_bl)) pss_nil))))))))))))
     (@pss_one _ _ _ (@ps_ret _ _ _ _ pe_bl))),?_⟩
   refine ⟨by show 3 <= sizeLine;decide,λp1 hp1=>⟨_,rfl,_,rfl,l,_,rfl,(same_new hp1).seq hS,λq1 hq1=>⟨p1,q1,_,_,rfl,rfl,(by rw [upd_ne (ne_of_none upd_same hq1)];exact upd_same),upd_same,cut_lens hlen (by show 3 <= 100;decide),λt ht=>⟨t,rfl,⟨_,SqL.of upd_same⟩,?_⟩⟩⟩⟩
   generalize hcs:[V.int 0,V.int 5,V.int 6]++cutV (ns.map V.int) none (some 20)=cs at ht ⊢
   have hci:∀ y∈cs,∃ z,y=V.int z:=λy hy=>cut_ints (hs:=[V.int 0,V.int 5,V.int 6]) (λy hy=>by
     simp only [List.mem_cons,List.not_mem_nil,or_false] at hy
     rcases hy with z | z | z<;>exact ⟨_,z⟩) (by rw [hcs];exact hy)
   refine for_list (K:=K) (a:=t) (xs:=cs) (λi σ H'=>(∃ v1 v2 v3 v4 v5 v6 v7 v8,σ=[some (.ref l),v1,v2,v3,v4,v5,v6,v7,v8])/\H' t=some (.lst cs))
     ⟨⟨_,_,_,_,_,_,_,_,rfl⟩,upd_same⟩ (λ_ _ _ _ ⟨_,y⟩=>SqL.of y) ?_ ?_
   · clear hp1 hq1 ht hS k hlen hcs
     rintro i y σ H hi ⟨⟨v1,v2,v3,v4,v5,v6,v7,v8,rfl⟩,vt⟩
     obtain ⟨zc,rfl⟩:=hci _ (List.mem_of_getElem? hi)
     refine ⟨_,rfl,zc,rfl,λgg rw hgg hrow=>?_⟩
     have Rg:Rw (upd H gg (.lst rw)) gg:=⟨rw,upd_same,hrow⟩
     have tg:t≠gg:=λy=>by rw [y,hgg] at vt;cases vt
     have vtg:=same_new (o:=.lst rw) hgg _ _ vt
     generalize upd H gg (.lst rw)=H1 at Rg vtg ⊢
     clear vt hgg hrow
     refine ⟨_,rfl,gg,rfl,Rg,λs H2 s1 s8 S2=>?_⟩
     refine ⟨_,rfl,gg,3,rfl,S2.row,by decide,by decide,λr H3 r0 r3 S3=>⟨_,_,rfl,rfl,?_⟩⟩
     refine ⟨_,rfl,gg,rfl,S3.row,λn H4 n1 n9 S4=>?_⟩
     have vt4:=S4.keep _ _ tg (S3.keep _ _ tg (S2.keep _ _ tg vtg))
     have R4:=S4.row
     clear S2 S3 S4 Rg vtg
     obtain ⟨n,rfl⟩:=Int.eq_ofNat_of_zero_le (show 0 <= n by omega)
     intro x dx nx ndx nex
     refine ⟨x,dx,rfl,upd_same,λsa H12 hsx fsa S12 kp12=>⟨rfl,?_⟩⟩
     have e12:=new_hand nx ndx kp12
     have fs:∀ c,sa.own c->H4 c=none:=λc hc=>by
       by_cases y:c=x
       · rw [y];exact nx
       · exact (up1 (up1 (fsa c hc y)).2).2
     subst hsx
     clear kp12 nx ndx nex fsa
     refine ⟨_,rfl,_,rfl,_,rfl,_,rfl,len0v,λft hft=>?_⟩
     have e13:=same_new (o:=.tup []) hft
     have S13:=S12.same e13
     have E13:=e12.trans e13
     have vf13:upd H12 ft (.tup []) ft=some (.tup []):=upd_same
     generalize upd H12 ft (.tup [])=H13 at S13 E13 vf13 ⊢
     clear S12 e12 e13 hft
     intro h dh nh ndh neh
     refine ⟨h,dh,sa.x,ft,s,2+r,_,[],rfl,upd_same,?_,λz H14 hz g1 g2 g3 hn14 kp14=>⟨rfl,?_⟩⟩
     · rw [upd_ne (ne_of_none vf13 nh),upd_ne (ne_of_none vf13 ndh)];exact vf13
     have hn14':Hn a.Hand a.Ring H14 z sa.x ⟨s,2+r,false⟩ n []:=hn14
     have fz:∀ c,z.own c->H13 c=none:=λc h2=>by
       rcases h2 with y | y | y | y
       · rw [y,hz];exact nh
       · rw [y];exact (up1 (up1 g1).2).2
       · rw [y];exact (up1 (up1 g2).2).2
       · rw [y];exact (up1 (up1 g3).2).2
     have e14:=new_hand nh ndh kp14
     have E14:=E13.trans e14
     have S14:=S13.same e14
     subst hz
     clear kp14 nh ndh neh g1 g2 g3 e14 S13 vf13 hn14
     refine ⟨_,rfl,_,rfl,_,rfl,len0v,λft hft=>?_⟩
     have e15:=same_new (o:=.tup []) hft
     have S15:=S14.same e15
     have E15:=E14.trans e15
     have hn15:=hn14'.same e15
     have vf15:upd H14 ft (.tup []) ft=some (.tup []):=upd_same
     generalize upd H14 ft (.tup [])=H15 at S15 E15 vf15 hn15 ⊢
     clear S14 E14 e15 hft hn14'
     intro h dh nh ndh neh
     refine ⟨h,dh,sa.x,ft,s,2+r,[],rfl,upd_same,?_,λzt H16 hz g1 g2 g3 tn16 kp16=>⟨rfl,?_⟩⟩
     · rw [upd_ne (ne_of_none vf15 nh),upd_ne (ne_of_none vf15 ndh)];exact vf15
     have tn16':Tn a.Heart a.Ring H16 zt sa.x ⟨s,2+r,false⟩ []:=tn16
     have e16:=new_hand nh ndh kp16
     have E16:=E15.trans e16
     have ft':∀ c,zt.own c->H15 c=none:=λc h2=>by
       rcases h2 with y | y | y | y
       · rw [y,hz];exact nh
       · rw [y];exact (up1 (up1 g1).2).2
       · rw [y];exact (up1 (up1 g2).2).2
       · rw [y];exact (up1 (up1 g3).2).2
     have dz:∀ c,z.own c->¬ zt.own c:=λc h1 h2=>by
       obtain ⟨o,e,_⟩:=hn15.there h1
       rw [ft' c h2] at e;cases e
     have W0:X5 w a.Hand a.Heart a.Ring a.Store H16 z zt sa ⟨s,2+r,false⟩ n Mem.zero (λ_=>[]) [] []:=⟨hn15.same e16,tn16',S15.same e16,dz⟩
     have M0:M8 s (2+r) n Mem.zero (λ_=>[]) [] [] [] [] 0 0:=M8.zero (by omega) s8 (by omega) (by omega)
     have fresh:∀ c,own5 z zt sa c->H4 c=none:=λc hc=>by
       rcases hc with hc | hc | hc
       · exact none_back E13 (fz c hc)
       · exact none_back E15 (ft' c hc)
       · exact fs c hc
     have og:¬ own5 z zt sa gg:=λy=>by
       obtain ⟨rw,e,_⟩:=R4
       rw [fresh _ y] at e;cases e
     have ot:¬ own6 z zt sa gg t:=λy=>by
       rcases y with y | y
       · rw [fresh _ y] at vt4;cases vt4
       · exact tg y
     have R16:Rw H16 gg:=R4.kp (Kp.same E16 []) (by simp)
     have vt16:=E16 _ _ vt4
     subst hz
     clear kp16 nh ndh neh g1 g2 g3 e16 E15 vf15 hn15 tn16 tn16' S15 dz R4 vt4 E13 fs fz ft' E16 fresh
     refine ⟨_,rfl,_,rfl,_,rfl,_,rfl,_,rfl,_,rfl,gg,z,zt,sa,s,2+r,n,_,rfl,W0,M0,R16,og,λH17 m rs A W1 M1 hA ht hf R17 k17=>⟨_,rfl,iteF ?_⟩⟩
     refine ⟨_,rfl,_,rfl,_,rfl,_,rfl,_,rfl,_,rfl,gg,z,zt,sa,s,2+r,n,m,rs,A,rfl,W1,M1,hA,ht,hf,R17,og,by omega,λH18 m2 rs2 A2 W2 M2 hA2 hf2 ht2 R18 k18=>⟨_,rfl,iteF ?_⟩⟩
     refine ⟨_,rfl,_,rfl,_,rfl,_,rfl,_,rfl,_,rfl,gg,z,zt,sa,s,2+r,n,m2,rs2,A2,rfl,W2,M2,hA2,hf2,ht2,R18,og,by omega,λH19 R19 k19=>⟨_,rfl,iteF ?_⟩⟩
     exact ⟨⟨_,_,_,_,_,_,_,_,rfl⟩,k19 _ _ ot (k18 _ _ ot (k17 _ _ ot vt16))⟩
   · rintro σ H2 ⟨⟨v1,v2,v3,v4,v5,v6,v7,v8,rfl⟩,vt⟩
     exact k _
end

theorem all_mk {l:PySem.W.OpenLaw} {w:World} {K:PySem.W.Frag} {h:Heap} {mg:Str->Option Value} {fa:Addr} (X:K.In h) (G:h.Ns mainGlobals mg) (hfa:mg "law"=some (.ref fa))
   {f_wall f_next_counter f_place_of f_ahead_by f_rounds_with f_Ring__init f_Ring_filled f_Ring_is_full f_Ring_place_at f_Ring_write_further f_Ring_lay f_Ring_fetch f_Hand__init f_Hand_become f_Hand_least_free f_Hand_check_ask f_Hand_ask f_Hand_collect f_Hand_under_way f_Hand_something_waits f_Heart__init f_Heart_become f_Heart_take f_Heart_check_answer f_Heart_answer f_Heart_tasks f_Heart_something_waits f_Store__init f_Store_become f_Store_write f_Store_drain f_Store_fence f_Store_read f_Store_memory f_Store_waits f_Store_cells f_law_well f_law_draw f_law_same f_law_worth f_law_size f_law_names f_law_kind f_law_asked f_law_answered f_law_seen f_law_refused f_law_all_asked f_law_asked_again f_law_answered_all f_law C_Ring C_Hand C_Heart C_Store C_RingError C_Full C_NoName C_NoTask C_NoDeed C_NoRow T_ASKS T_ANSWERS:Addr}
   {tod_ASKS:Option Addr} {tsl_ASKS:Array (Option Value)} {tn_ASKS:Nat} {tt0_ASKS tt1_ASKS tt2_ASKS:Tok}
   {tod_ANSWERS:Option Addr} {tsl_ANSWERS:Array (Option Value)} {tn_ANSWERS:Nat} {tt0_ANSWERS tt1_ANSWERS tt2_ANSWERS:Tok}
   {od_wall an_wall:Option Addr} {sl_wall:Array (Option Value)} {oc_wall kV_wall dc_wall pm_wall cd_wall ct_wall:Value}
   {od_next_counter an_next_counter:Option Addr} {sl_next_counter:Array (Option Value)} {oc_next_counter kV_next_counter dc_next_counter pm_next_counter cd_next_counter ct_next_counter:Value}
   {od_place_of an_place_of:Option Addr} {sl_place_of:Array (Option Value)} {oc_place_of kV_place_of dc_place_of pm_place_of cd_place_of ct_place_of:Value}
   {od_ahead_by an_ahead_by:Option Addr} {sl_ahead_by:Array (Option Value)} {oc_ahead_by kV_ahead_by dc_ahead_by pm_ahead_by cd_ahead_by ct_ahead_by:Value}
   {od_rounds_with an_rounds_with:Option Addr} {sl_rounds_with:Array (Option Value)} {oc_rounds_with kV_rounds_with dc_rounds_with pm_rounds_with cd_rounds_with ct_rounds_with:Value}
   {od_Ring__init an_Ring__init:Option Addr} {sl_Ring__init:Array (Option Value)} {oc_Ring__init kV_Ring__init dc_Ring__init pm_Ring__init cd_Ring__init ct_Ring__init:Value}
   {od_Ring_filled an_Ring_filled:Option Addr} {sl_Ring_filled:Array (Option Value)} {oc_Ring_filled kV_Ring_filled dc_Ring_filled pm_Ring_filled cd_Ring_filled ct_Ring_filled:Value}
   {od_Ring_is_full an_Ring_is_full:Option Addr} {sl_Ring_is_full:Array (Option Value)} {oc_Ring_is_full kV_Ring_is_full dc_Ring_is_full pm_Ring_is_full cd_Ring_is_full ct_Ring_is_full:Value}
   {od_Ring_place_at an_Ring_place_at:Option Addr} {sl_Ring_place_at:Array (Option Value)} {oc_Ring_place_at kV_Ring_place_at dc_Ring_place_at pm_Ring_place_at cd_Ring_place_at ct_Ring_place_at:Value}
   {od_Ring_write_further an_Ring_write_further:Option Addr} {sl_Ring_write_further:Array (Option Value)} {oc_Ring_write_further kV_Ring_write_further dc_Ring_write_further pm_Ring_write_further cd_Ring_write_further ct_Ring_write_further:Value}
   {od_Ring_lay an_Ring_lay:Option Addr} {sl_Ring_lay:Array (Option Value)} {oc_Ring_lay kV_Ring_lay dc_Ring_lay pm_Ring_lay cd_Ring_lay ct_Ring_lay:Value}
   {od_Ring_fetch an_Ring_fetch:Option Addr} {sl_Ring_fetch:Array (Option Value)} {oc_Ring_fetch kV_Ring_fetch dc_Ring_fetch pm_Ring_fetch cd_Ring_fetch ct_Ring_fetch:Value}
   {od_Hand__init an_Hand__init:Option Addr} {sl_Hand__init:Array (Option Value)} {oc_Hand__init kV_Hand__init dc_Hand__init pm_Hand__init cd_Hand__init ct_Hand__init:Value}
   {od_Hand_become an_Hand_become:Option Addr} {sl_Hand_become:Array (Option Value)} {oc_Hand_become kV_Hand_become dc_Hand_become pm_Hand_become cd_Hand_become ct_Hand_become:Value}
   {od_Hand_least_free an_Hand_least_free:Option Addr} {sl_Hand_least_free:Array (Option Value)} {oc_Hand_least_free kV_Hand_least_free dc_Hand_least_free pm_Hand_least_free cd_Hand_least_free ct_Hand_least_free:Value}
   {od_Hand_check_ask an_Hand_check_ask:Option Addr} {sl_Hand_check_ask:Array (Option Value)} {oc_Hand_check_ask kV_Hand_check_ask dc_Hand_check_ask pm_Hand_check_ask cd_Hand_check_ask ct_Hand_check_ask:Value}
   {od_Hand_ask an_Hand_ask:Option Addr} {sl_Hand_ask:Array (Option Value)} {oc_Hand_ask kV_Hand_ask dc_Hand_ask pm_Hand_ask cd_Hand_ask ct_Hand_ask:Value}
   {od_Hand_collect an_Hand_collect:Option Addr} {sl_Hand_collect:Array (Option Value)} {oc_Hand_collect kV_Hand_collect dc_Hand_collect pm_Hand_collect cd_Hand_collect ct_Hand_collect:Value}
   {od_Hand_under_way an_Hand_under_way:Option Addr} {sl_Hand_under_way:Array (Option Value)} {oc_Hand_under_way kV_Hand_under_way dc_Hand_under_way pm_Hand_under_way cd_Hand_under_way ct_Hand_under_way:Value}
   {od_Hand_something_waits an_Hand_something_waits:Option Addr} {sl_Hand_something_waits:Array (Option Value)} {oc_Hand_something_waits kV_Hand_something_waits dc_Hand_something_waits pm_Hand_something_waits cd_Hand_something_waits ct_Hand_something_waits:Value}
   {od_Heart__init an_Heart__init:Option Addr} {sl_Heart__init:Array (Option Value)} {oc_Heart__init kV_Heart__init dc_Heart__init pm_Heart__init cd_Heart__init ct_Heart__init:Value}
   {od_Heart_become an_Heart_become:Option Addr} {sl_Heart_become:Array (Option Value)} {oc_Heart_become kV_Heart_become dc_Heart_become pm_Heart_become cd_Heart_become ct_Heart_become:Value}
   {od_Heart_take an_Heart_take:Option Addr} {sl_Heart_take:Array (Option Value)} {oc_Heart_take kV_Heart_take dc_Heart_take pm_Heart_take cd_Heart_take ct_Heart_take:Value}
   {od_Heart_check_answer an_Heart_check_answer:Option Addr} {sl_Heart_check_answer:Array (Option Value)} {oc_Heart_check_answer kV_Heart_check_answer dc_Heart_check_answer pm_Heart_check_answer cd_Heart_check_answer ct_Heart_check_answer:Value}
   {od_Heart_answer an_Heart_answer:Option Addr} {sl_Heart_answer:Array (Option Value)} {oc_Heart_answer kV_Heart_answer dc_Heart_answer pm_Heart_answer cd_Heart_answer ct_Heart_answer:Value}
   {od_Heart_tasks an_Heart_tasks:Option Addr} {sl_Heart_tasks:Array (Option Value)} {oc_Heart_tasks kV_Heart_tasks dc_Heart_tasks pm_Heart_tasks cd_Heart_tasks ct_Heart_tasks:Value}
   {od_Heart_something_waits an_Heart_something_waits:Option Addr} {sl_Heart_something_waits:Array (Option Value)} {oc_Heart_something_waits kV_Heart_something_waits dc_Heart_something_waits pm_Heart_something_waits cd_Heart_something_waits ct_Heart_something_waits:Value}
   {od_Store__init an_Store__init:Option Addr} {sl_Store__init:Array (Option Value)} {oc_Store__init kV_Store__init dc_Store__init pm_Store__init cd_Store__init ct_Store__init:Value}
   {od_Store_become an_Store_become:Option Addr} {sl_Store_become:Array (Option Value)} {oc_Store_become kV_Store_become dc_Store_become pm_Store_become cd_Store_become ct_Store_become:Value}
   {od_Store_write an_Store_write:Option Addr} {sl_Store_write:Array (Option Value)} {oc_Store_write kV_Store_write dc_Store_write pm_Store_write cd_Store_write ct_Store_write:Value}
   {od_Store_drain an_Store_drain:Option Addr} {sl_Store_drain:Array (Option Value)} {oc_Store_drain kV_Store_drain dc_Store_drain pm_Store_drain cd_Store_drain ct_Store_drain:Value}
   {od_Store_fence an_Store_fence:Option Addr} {sl_Store_fence:Array (Option Value)} {oc_Store_fence kV_Store_fence dc_Store_fence pm_Store_fence cd_Store_fence ct_Store_fence:Value}
   {od_Store_read an_Store_read:Option Addr} {sl_Store_read:Array (Option Value)} {oc_Store_read kV_Store_read dc_Store_read pm_Store_read cd_Store_read ct_Store_read:Value}
   {od_Store_memory an_Store_memory:Option Addr} {sl_Store_memory:Array (Option Value)} {oc_Store_memory kV_Store_memory dc_Store_memory pm_Store_memory cd_Store_memory ct_Store_memory:Value}
   {od_Store_waits an_Store_waits:Option Addr} {sl_Store_waits:Array (Option Value)} {oc_Store_waits kV_Store_waits dc_Store_waits pm_Store_waits cd_Store_waits ct_Store_waits:Value}
   {od_Store_cells an_Store_cells:Option Addr} {sl_Store_cells:Array (Option Value)} {oc_Store_cells kV_Store_cells dc_Store_cells pm_Store_cells cd_Store_cells ct_Store_cells:Value}
   {od_law_well an_law_well:Option Addr} {sl_law_well:Array (Option Value)} {oc_law_well kV_law_well dc_law_well pm_law_well cd_law_well ct_law_well:Value}
   {od_law_draw an_law_draw:Option Addr} {sl_law_draw:Array (Option Value)} {oc_law_draw kV_law_draw dc_law_draw pm_law_draw cd_law_draw ct_law_draw:Value}
   {od_law_same an_law_same:Option Addr} {sl_law_same:Array (Option Value)} {oc_law_same kV_law_same dc_law_same pm_law_same cd_law_same ct_law_same:Value}
   {od_law_worth an_law_worth:Option Addr} {sl_law_worth:Array (Option Value)} {oc_law_worth kV_law_worth dc_law_worth pm_law_worth cd_law_worth ct_law_worth:Value}
   {od_law_size an_law_size:Option Addr} {sl_law_size:Array (Option Value)} {oc_law_size kV_law_size dc_law_size pm_law_size cd_law_size ct_law_size:Value}
   {od_law_names an_law_names:Option Addr} {sl_law_names:Array (Option Value)} {oc_law_names kV_law_names dc_law_names pm_law_names cd_law_names ct_law_names:Value}
   {od_law_kind an_law_kind:Option Addr} {sl_law_kind:Array (Option Value)} {oc_law_kind kV_law_kind dc_law_kind pm_law_kind cd_law_kind ct_law_kind:Value}
   {od_law_asked an_law_asked:Option Addr} {sl_law_asked:Array (Option Value)} {oc_law_asked kV_law_asked dc_law_asked pm_law_asked cd_law_asked ct_law_asked:Value}
   {od_law_answered an_law_answered:Option Addr} {sl_law_answered:Array (Option Value)} {oc_law_answered kV_law_answered dc_law_answered pm_law_answered cd_law_answered ct_law_answered:Value}
   {od_law_seen an_law_seen:Option Addr} {sl_law_seen:Array (Option Value)} {oc_law_seen kV_law_seen dc_law_seen pm_law_seen cd_law_seen ct_law_seen:Value}
   {od_law_refused an_law_refused:Option Addr} {sl_law_refused:Array (Option Value)} {oc_law_refused kV_law_refused dc_law_refused pm_law_refused cd_law_refused ct_law_refused:Value}
   {od_law_all_asked an_law_all_asked:Option Addr} {sl_law_all_asked:Array (Option Value)} {oc_law_all_asked kV_law_all_asked dc_law_all_asked pm_law_all_asked cd_law_all_asked ct_law_all_asked:Value}
   {od_law_asked_again an_law_asked_again:Option Addr} {sl_law_asked_again:Array (Option Value)} {oc_law_asked_again kV_law_asked_again dc_law_asked_again pm_law_asked_again cd_law_asked_again ct_law_asked_again:Value}
   {od_law_answered_all an_law_answered_all:Option Addr} {sl_law_answered_all:Array (Option Value)} {oc_law_answered_all kV_law_answered_all dc_law_answered_all pm_law_answered_all cd_law_answered_all ct_law_answered_all:Value}
   {od_law an_law:Option Addr} {sl_law:Array (Option Value)} {oc_law kV_law dc_law pm_law cd_law ct_law:Value}
   (aC_Ring:PySem.W.nsIn K mainGlobals "Ring"=some (some (.ref C_Ring)))
   (aC_Hand:PySem.W.nsIn K mainGlobals "Hand"=some (some (.ref C_Hand)))
   (aC_Heart:PySem.W.nsIn K mainGlobals "Heart"=some (some (.ref C_Heart)))
   (aC_Store:PySem.W.nsIn K mainGlobals "Store"=some (some (.ref C_Store)))
   (a_wall:PySem.W.nsIn K mainGlobals "_wall"=some (some (.ref f_wall)))
   (l_wall:K.lookup f_wall=some ⟨oc_wall,od_wall,.func (PySem.W.fnOf "_wall" "_wall" (defArgs s_wall) (defBody s_wall) (defScope s_wall) .none kV_wall dc_wall pm_wall an_wall cd_wall ct_wall),sl_wall⟩)
   (c_wall:PySem.W.codeIn K cd_wall "_wall"=true)
   (k_wall:PySem.W.keepIn K (.ref f_wall)=true)
   (a_next_counter:PySem.W.nsIn K mainGlobals "next_counter"=some (some (.ref f_next_counter)))
   (l_next_counter:K.lookup f_next_counter=some ⟨oc_next_counter,od_next_counter,.func (PySem.W.fnOf "next_counter" "next_counter" (defArgs s_next_counter) (defBody s_next_counter) (defScope s_next_counter) .none kV_next_counter dc_next_counter pm_next_counter an_next_counter cd_next_counter ct_next_counter),sl_next_counter⟩)
   (c_next_counter:PySem.W.codeIn K cd_next_counter "next_counter"=true)
   (k_next_counter:PySem.W.keepIn K (.ref f_next_counter)=true)
   (a_place_of:PySem.W.nsIn K mainGlobals "place_of"=some (some (.ref f_place_of)))
   (l_place_of:K.lookup f_place_of=some ⟨oc_place_of,od_place_of,.func (PySem.W.fnOf "place_of" "place_of" (defArgs s_place_of) (defBody s_place_of) (defScope s_place_of) .none kV_place_of dc_place_of pm_place_of an_place_of cd_place_of ct_place_of),sl_place_of⟩)
   (c_place_of:PySem.W.codeIn K cd_place_of "place_of"=true)
   (k_place_of:PySem.W.keepIn K (.ref f_place_of)=true)
   (a_ahead_by:PySem.W.nsIn K mainGlobals "ahead_by"=some (some (.ref f_ahead_by)))
   (l_ahead_by:K.lookup f_ahead_by=some ⟨oc_ahead_by,od_ahead_by,.func (PySem.W.fnOf "ahead_by" "ahead_by" (defArgs s_ahead_by) (defBody s_ahead_by) (defScope s_ahead_by) .none kV_ahead_by dc_ahead_by pm_ahead_by an_ahead_by cd_ahead_by ct_ahead_by),sl_ahead_by⟩)
   (c_ahead_by:PySem.W.codeIn K cd_ahead_by "ahead_by"=true)
   (k_ahead_by:PySem.W.keepIn K (.ref f_ahead_by)=true)
   (a_rounds_with:PySem.W.nsIn K mainGlobals "rounds_with"=some (some (.ref f_rounds_with)))
   (l_rounds_with:K.lookup f_rounds_with=some ⟨oc_rounds_with,od_rounds_with,.func (PySem.W.fnOf "rounds_with" "rounds_with" (defArgs s_rounds_with) (defBody s_rounds_with) (defScope s_rounds_with) .none kV_rounds_with dc_rounds_with pm_rounds_with an_rounds_with cd_rounds_with ct_rounds_with),sl_rounds_with⟩)
   (c_rounds_with:PySem.W.codeIn K cd_rounds_with "rounds_with"=true)
   (k_rounds_with:PySem.W.keepIn K (.ref f_rounds_with)=true)
   (a_Ring__init:PySem.W.findIn K (.ref C_Ring) "__init__"=some (some (.ref f_Ring__init)))
   (i_Ring__init:PySem.W.isFn K (.ref f_Ring__init)=true)
   (l_Ring__init:K.lookup f_Ring__init=some ⟨oc_Ring__init,od_Ring__init,.func (PySem.W.fnOf "__init__" "Ring.__init__" (defArgs s_Ring__init) (defBody s_Ring__init) (defScope s_Ring__init) .none kV_Ring__init dc_Ring__init pm_Ring__init an_Ring__init cd_Ring__init ct_Ring__init),sl_Ring__init⟩)
   (c_Ring__init:PySem.W.codeIn K cd_Ring__init "Ring.__init__"=true)
   (k_Ring__init:PySem.W.keepIn K (.ref f_Ring__init)=true)
   (a_Ring_filled:PySem.W.findIn K (.ref C_Ring) "filled"=some (some (.ref f_Ring_filled)))
   (i_Ring_filled:PySem.W.isFn K (.ref f_Ring_filled)=true)
   (l_Ring_filled:K.lookup f_Ring_filled=some ⟨oc_Ring_filled,od_Ring_filled,.func (PySem.W.fnOf "filled" "Ring.filled" (defArgs s_Ring_filled) (defBody s_Ring_filled) (defScope s_Ring_filled) .none kV_Ring_filled dc_Ring_filled pm_Ring_filled an_Ring_filled cd_Ring_filled ct_Ring_filled),sl_Ring_filled⟩)
   (c_Ring_filled:PySem.W.codeIn K cd_Ring_filled "Ring.filled"=true)
   (k_Ring_filled:PySem.W.keepIn K (.ref f_Ring_filled)=true)
   (a_Ring_is_full:PySem.W.findIn K (.ref C_Ring) "is_full"=some (some (.ref f_Ring_is_full)))
   (i_Ring_is_full:PySem.W.isFn K (.ref f_Ring_is_full)=true)
   (l_Ring_is_full:K.lookup f_Ring_is_full=some ⟨oc_Ring_is_full,od_Ring_is_full,.func (PySem.W.fnOf "is_full" "Ring.is_full" (defArgs s_Ring_is_full) (defBody s_Ring_is_full) (defScope s_Ring_is_full) .none kV_Ring_is_full dc_Ring_is_full pm_Ring_is_full an_Ring_is_full cd_Ring_is_full ct_Ring_is_full),sl_Ring_is_full⟩)
   (c_Ring_is_full:PySem.W.codeIn K cd_Ring_is_full "Ring.is_full"=true)
   (k_Ring_is_full:PySem.W.keepIn K (.ref f_Ring_is_full)=true)
   (a_Ring_place_at:PySem.W.findIn K (.ref C_Ring) "place_at"=some (some (.ref f_Ring_place_at)))
   (i_Ring_place_at:PySem.W.isFn K (.ref f_Ring_place_at)=true)
   (l_Ring_place_at:K.lookup f_Ring_place_at=some ⟨oc_Ring_place_at,od_Ring_place_at,.func (PySem.W.fnOf "place_at" "Ring.place_at" (defArgs s_Ring_place_at) (defBody s_Ring_place_at) (defScope s_Ring_place_at) .none kV_Ring_place_at dc_Ring_place_at pm_Ring_place_at an_Ring_place_at cd_Ring_place_at ct_Ring_place_at),sl_Ring_place_at⟩)
   (c_Ring_place_at:PySem.W.codeIn K cd_Ring_place_at "Ring.place_at"=true)
   (k_Ring_place_at:PySem.W.keepIn K (.ref f_Ring_place_at)=true)
   (a_Ring_write_further:PySem.W.findIn K (.ref C_Ring) "write_further"=some (some (.ref f_Ring_write_further)))
   (i_Ring_write_further:PySem.W.isFn K (.ref f_Ring_write_further)=true)
   (l_Ring_write_further:K.lookup f_Ring_write_further=some ⟨oc_Ring_write_further,od_Ring_write_further,.func (PySem.W.fnOf "write_further" "Ring.write_further" (defArgs s_Ring_write_further) (defBody s_Ring_write_further) (defScope s_Ring_write_further) .none kV_Ring_write_further dc_Ring_write_further pm_Ring_write_further an_Ring_write_further cd_Ring_write_further ct_Ring_write_further),sl_Ring_write_further⟩)
   (c_Ring_write_further:PySem.W.codeIn K cd_Ring_write_further "Ring.write_further"=true)
   (k_Ring_write_further:PySem.W.keepIn K (.ref f_Ring_write_further)=true)
   (a_Ring_lay:PySem.W.findIn K (.ref C_Ring) "lay"=some (some (.ref f_Ring_lay)))
   (i_Ring_lay:PySem.W.isFn K (.ref f_Ring_lay)=true)
   (l_Ring_lay:K.lookup f_Ring_lay=some ⟨oc_Ring_lay,od_Ring_lay,.func (PySem.W.fnOf "lay" "Ring.lay" (defArgs s_Ring_lay) (defBody s_Ring_lay) (defScope s_Ring_lay) .none kV_Ring_lay dc_Ring_lay pm_Ring_lay an_Ring_lay cd_Ring_lay ct_Ring_lay),sl_Ring_lay⟩)
   (c_Ring_lay:PySem.W.codeIn K cd_Ring_lay "Ring.lay"=true)
   (k_Ring_lay:PySem.W.keepIn K (.ref f_Ring_lay)=true)
   (a_Ring_fetch:PySem.W.findIn K (.ref C_Ring) "fetch"=some (some (.ref f_Ring_fetch)))
   (i_Ring_fetch:PySem.W.isFn K (.ref f_Ring_fetch)=true)
   (l_Ring_fetch:K.lookup f_Ring_fetch=some ⟨oc_Ring_fetch,od_Ring_fetch,.func (PySem.W.fnOf "fetch" "Ring.fetch" (defArgs s_Ring_fetch) (defBody s_Ring_fetch) (defScope s_Ring_fetch) .none kV_Ring_fetch dc_Ring_fetch pm_Ring_fetch an_Ring_fetch cd_Ring_fetch ct_Ring_fetch),sl_Ring_fetch⟩)
   (c_Ring_fetch:PySem.W.codeIn K cd_Ring_fetch "Ring.fetch"=true)
   (k_Ring_fetch:PySem.W.keepIn K (.ref f_Ring_fetch)=true)
   (a_Hand__init:PySem.W.findIn K (.ref C_Hand) "__init__"=some (some (.ref f_Hand__init)))
   (i_Hand__init:PySem.W.isFn K (.ref f_Hand__init)=true)
   (l_Hand__init:K.lookup f_Hand__init=some ⟨oc_Hand__init,od_Hand__init,.func (PySem.W.fnOf "__init__" "Hand.__init__" (defArgs s_Hand__init) (defBody s_Hand__init) (defScope s_Hand__init) .none kV_Hand__init dc_Hand__init pm_Hand__init an_Hand__init cd_Hand__init ct_Hand__init),sl_Hand__init⟩)
   (c_Hand__init:PySem.W.codeIn K cd_Hand__init "Hand.__init__"=true)
   (k_Hand__init:PySem.W.keepIn K (.ref f_Hand__init)=true)
   (a_Hand_become:PySem.W.findIn K (.ref C_Hand) "become"=some (some (.ref f_Hand_become)))
   (i_Hand_become:PySem.W.isFn K (.ref f_Hand_become)=true)
   (l_Hand_become:K.lookup f_Hand_become=some ⟨oc_Hand_become,od_Hand_become,.func (PySem.W.fnOf "become" "Hand.become" (defArgs s_Hand_become) (defBody s_Hand_become) (defScope s_Hand_become) .none kV_Hand_become dc_Hand_become pm_Hand_become an_Hand_become cd_Hand_become ct_Hand_become),sl_Hand_become⟩)
   (c_Hand_become:PySem.W.codeIn K cd_Hand_become "Hand.become"=true)
   (k_Hand_become:PySem.W.keepIn K (.ref f_Hand_become)=true)
   (a_Hand_least_free:PySem.W.findIn K (.ref C_Hand) "least_free"=some (some (.ref f_Hand_least_free)))
   (i_Hand_least_free:PySem.W.isFn K (.ref f_Hand_least_free)=true)
   (l_Hand_least_free:K.lookup f_Hand_least_free=some ⟨oc_Hand_least_free,od_Hand_least_free,.func (PySem.W.fnOf "least_free" "Hand.least_free" (defArgs s_Hand_least_free) (defBody s_Hand_least_free) (defScope s_Hand_least_free) .none kV_Hand_least_free dc_Hand_least_free pm_Hand_least_free an_Hand_least_free cd_Hand_least_free ct_Hand_least_free),sl_Hand_least_free⟩)
   (c_Hand_least_free:PySem.W.codeIn K cd_Hand_least_free "Hand.least_free"=true)
   (k_Hand_least_free:PySem.W.keepIn K (.ref f_Hand_least_free)=true)
   (a_Hand_check_ask:PySem.W.findIn K (.ref C_Hand) "check_ask"=some (some (.ref f_Hand_check_ask)))
   (i_Hand_check_ask:PySem.W.isFn K (.ref f_Hand_check_ask)=true)
   (l_Hand_check_ask:K.lookup f_Hand_check_ask=some ⟨oc_Hand_check_ask,od_Hand_check_ask,.func (PySem.W.fnOf "check_ask" "Hand.check_ask" (defArgs s_Hand_check_ask) (defBody s_Hand_check_ask) (defScope s_Hand_check_ask) .none kV_Hand_check_ask dc_Hand_check_ask pm_Hand_check_ask an_Hand_check_ask cd_Hand_check_ask ct_Hand_check_ask),sl_Hand_check_ask⟩)
   (c_Hand_check_ask:PySem.W.codeIn K cd_Hand_check_ask "Hand.check_ask"=true)
   (k_Hand_check_ask:PySem.W.keepIn K (.ref f_Hand_check_ask)=true)
   (a_Hand_ask:PySem.W.findIn K (.ref C_Hand) "ask"=some (some (.ref f_Hand_ask)))
   (i_Hand_ask:PySem.W.isFn K (.ref f_Hand_ask)=true)
   (l_Hand_ask:K.lookup f_Hand_ask=some ⟨oc_Hand_ask,od_Hand_ask,.func (PySem.W.fnOf "ask" "Hand.ask" (defArgs s_Hand_ask) (defBody s_Hand_ask) (defScope s_Hand_ask) .none kV_Hand_ask dc_Hand_ask pm_Hand_ask an_Hand_ask cd_Hand_ask ct_Hand_ask),sl_Hand_ask⟩)
   (c_Hand_ask:PySem.W.codeIn K cd_Hand_ask "Hand.ask"=true)
   (k_Hand_ask:PySem.W.keepIn K (.ref f_Hand_ask)=true)
   (a_Hand_collect:PySem.W.findIn K (.ref C_Hand) "collect"=some (some (.ref f_Hand_collect)))
   (i_Hand_collect:PySem.W.isFn K (.ref f_Hand_collect)=true)
   (l_Hand_collect:K.lookup f_Hand_collect=some ⟨oc_Hand_collect,od_Hand_collect,.func (PySem.W.fnOf "collect" "Hand.collect" (defArgs s_Hand_collect) (defBody s_Hand_collect) (defScope s_Hand_collect) .none kV_Hand_collect dc_Hand_collect pm_Hand_collect an_Hand_collect cd_Hand_collect ct_Hand_collect),sl_Hand_collect⟩)
   (c_Hand_collect:PySem.W.codeIn K cd_Hand_collect "Hand.collect"=true)
   (k_Hand_collect:PySem.W.keepIn K (.ref f_Hand_collect)=true)
   (a_Hand_under_way:PySem.W.findIn K (.ref C_Hand) "under_way"=some (some (.ref f_Hand_under_way)))
   (i_Hand_under_way:PySem.W.isFn K (.ref f_Hand_under_way)=true)
   (l_Hand_under_way:K.lookup f_Hand_under_way=some ⟨oc_Hand_under_way,od_Hand_under_way,.func (PySem.W.fnOf "under_way" "Hand.under_way" (defArgs s_Hand_under_way) (defBody s_Hand_under_way) (defScope s_Hand_under_way) .none kV_Hand_under_way dc_Hand_under_way pm_Hand_under_way an_Hand_under_way cd_Hand_under_way ct_Hand_under_way),sl_Hand_under_way⟩)
   (c_Hand_under_way:PySem.W.codeIn K cd_Hand_under_way "Hand.under_way"=true)
   (k_Hand_under_way:PySem.W.keepIn K (.ref f_Hand_under_way)=true)
   (a_Hand_something_waits:PySem.W.findIn K (.ref C_Hand) "something_waits"=some (some (.ref f_Hand_something_waits)))
   (i_Hand_something_waits:PySem.W.isFn K (.ref f_Hand_something_waits)=true)
   (l_Hand_something_waits:K.lookup f_Hand_something_waits=some ⟨oc_Hand_something_waits,od_Hand_something_waits,.func (PySem.W.fnOf "something_waits" "Hand.something_waits" (defArgs s_Hand_something_waits) (defBody s_Hand_something_waits) (defScope s_Hand_something_waits) .none kV_Hand_something_waits dc_Hand_something_waits pm_Hand_something_waits an_Hand_something_waits cd_Hand_something_waits ct_Hand_something_waits),sl_Hand_something_waits⟩)
   (c_Hand_something_waits:PySem.W.codeIn K cd_Hand_something_waits "Hand.something_waits"=true)
   (k_Hand_something_waits:PySem.W.keepIn K (.ref f_Hand_something_waits)=true)
   (a_Heart__init:PySem.W.findIn K (.ref C_Heart) "__init__"=some (some (.ref f_Heart__init)))
   (i_Heart__init:PySem.W.isFn K (.ref f_Heart__init)=true)
   (l_Heart__init:K.lookup f_Heart__init=some ⟨oc_Heart__init,od_Heart__init,.func (PySem.W.fnOf "__init__" "Heart.__init__" (defArgs s_Heart__init) (defBody s_Heart__init) (defScope s_Heart__init) .none kV_Heart__init dc_Heart__init pm_Heart__init an_Heart__init cd_Heart__init ct_Heart__init),sl_Heart__init⟩)
   (c_Heart__init:PySem.W.codeIn K cd_Heart__init "Heart.__init__"=true)
   (k_Heart__init:PySem.W.keepIn K (.ref f_Heart__init)=true)
   (a_Heart_become:PySem.W.findIn K (.ref C_Heart) "become"=some (some (.ref f_Heart_become)))
   (i_Heart_become:PySem.W.isFn K (.ref f_Heart_become)=true)
   (l_Heart_become:K.lookup f_Heart_become=some ⟨oc_Heart_become,od_Heart_become,.func (PySem.W.fnOf "become" "Heart.become" (defArgs s_Heart_become) (defBody s_Heart_become) (defScope s_Heart_become) .none kV_Heart_become dc_Heart_become pm_Heart_become an_Heart_become cd_Heart_become ct_Heart_become),sl_Heart_become⟩)
   (c_Heart_become:PySem.W.codeIn K cd_Heart_become "Heart.become"=true)
   (k_Heart_become:PySem.W.keepIn K (.ref f_Heart_become)=true)
   (a_Heart_take:PySem.W.findIn K (.ref C_Heart) "take"=some (some (.ref f_Heart_take)))
   (i_Heart_take:PySem.W.isFn K (.ref f_Heart_take)=true)
   (l_Heart_take:K.lookup f_Heart_take=some ⟨oc_Heart_take,od_Heart_take,.func (PySem.W.fnOf "take" "Heart.take" (defArgs s_Heart_take) (defBody s_Heart_take) (defScope s_Heart_take) .none kV_Heart_take dc_Heart_take pm_Heart_take an_Heart_take cd_Heart_take ct_Heart_take),sl_Heart_take⟩)
   (c_Heart_take:PySem.W.codeIn K cd_Heart_take "Heart.take"=true)
   (k_Heart_take:PySem.W.keepIn K (.ref f_Heart_take)=true)
   (a_Heart_check_answer:PySem.W.findIn K (.ref C_Heart) "check_answer"=some (some (.ref f_Heart_check_answer)))
   (i_Heart_check_answer:PySem.W.isFn K (.ref f_Heart_check_answer)=true)
   (l_Heart_check_answer:K.lookup f_Heart_check_answer=some ⟨oc_Heart_check_answer,od_Heart_check_answer,.func (PySem.W.fnOf "check_answer" "Heart.check_answer" (defArgs s_Heart_check_answer) (defBody s_Heart_check_answer) (defScope s_Heart_check_answer) .none kV_Heart_check_answer dc_Heart_check_answer pm_Heart_check_answer an_Heart_check_answer cd_Heart_check_answer ct_Heart_check_answer),sl_Heart_check_answer⟩)
   (c_Heart_check_answer:PySem.W.codeIn K cd_Heart_check_answer "Heart.check_answer"=true)
   (k_Heart_check_answer:PySem.W.keepIn K (.ref f_Heart_check_answer)=true)
   (a_Heart_answer:PySem.W.findIn K (.ref C_Heart) "answer"=some (some (.ref f_Heart_answer)))
   (i_Heart_answer:PySem.W.isFn K (.ref f_Heart_answer)=true)
   (l_Heart_answer:K.lookup f_Heart_answer=some ⟨oc_Heart_answer,od_Heart_answer,.func (PySem.W.fnOf "answer" "Heart.answer" (defArgs s_Heart_answer) (defBody s_Heart_answer) (defScope s_Heart_answer) .none kV_Heart_answer dc_Heart_answer pm_Heart_answer an_Heart_answer cd_Heart_answer ct_Heart_answer),sl_Heart_answer⟩)
   (c_Heart_answer:PySem.W.codeIn K cd_Heart_answer "Heart.answer"=true)
   (k_Heart_answer:PySem.W.keepIn K (.ref f_Heart_answer)=true)
   (a_Heart_tasks:PySem.W.findIn K (.ref C_Heart) "tasks"=some (some (.ref f_Heart_tasks)))
   (i_Heart_tasks:PySem.W.isFn K (.ref f_Heart_tasks)=true)
   (l_Heart_tasks:K.lookup f_Heart_tasks=some ⟨oc_Heart_tasks,od_Heart_tasks,.func (PySem.W.fnOf "tasks" "Heart.tasks" (defArgs s_Heart_tasks) (defBody s_Heart_tasks) (defScope s_Heart_tasks) .none kV_Heart_tasks dc_Heart_tasks pm_Heart_tasks an_Heart_tasks cd_Heart_tasks ct_Heart_tasks),sl_Heart_tasks⟩)
   (c_Heart_tasks:PySem.W.codeIn K cd_Heart_tasks "Heart.tasks"=true)
   (k_Heart_tasks:PySem.W.keepIn K (.ref f_Heart_tasks)=true)
   (a_Heart_something_waits:PySem.W.findIn K (.ref C_Heart) "something_waits"=some (some (.ref f_Heart_something_waits)))
   (i_Heart_something_waits:PySem.W.isFn K (.ref f_Heart_something_waits)=true)
   (l_Heart_something_waits:K.lookup f_Heart_something_waits=some ⟨oc_Heart_something_waits,od_Heart_something_waits,.func (PySem.W.fnOf "something_waits" "Heart.something_waits" (defArgs s_Heart_something_waits) (defBody s_Heart_something_waits) (defScope s_Heart_something_waits) .none kV_Heart_something_waits dc_Heart_something_waits pm_Heart_something_waits an_Heart_something_waits cd_Heart_something_waits ct_Heart_something_waits),sl_Heart_something_waits⟩)
   (c_Heart_something_waits:PySem.W.codeIn K cd_Heart_something_waits "Heart.something_waits"=true)
   (k_Heart_something_waits:PySem.W.keepIn K (.ref f_Heart_something_waits)=true)
   (a_Store__init:PySem.W.findIn K (.ref C_Store) "__init__"=some (some (.ref f_Store__init)))
   (i_Store__init:PySem.W.isFn K (.ref f_Store__init)=true)
   (l_Store__init:K.lookup f_Store__init=some ⟨oc_Store__init,od_Store__init,.func (PySem.W.fnOf "__init__" "Store.__init__" (defArgs s_Store__init) (defBody s_Store__init) (defScope s_Store__init) .none kV_Store__init dc_Store__init pm_Store__init an_Store__init cd_Store__init ct_Store__init),sl_Store__init⟩)
   (c_Store__init:PySem.W.codeIn K cd_Store__init "Store.__init__"=true)
   (k_Store__init:PySem.W.keepIn K (.ref f_Store__init)=true)
   (a_Store_become:PySem.W.findIn K (.ref C_Store) "become"=some (some (.ref f_Store_become)))
   (i_Store_become:PySem.W.isFn K (.ref f_Store_become)=true)
   (l_Store_become:K.lookup f_Store_become=some ⟨oc_Store_become,od_Store_become,.func (PySem.W.fnOf "become" "Store.become" (defArgs s_Store_become) (defBody s_Store_become) (defScope s_Store_become) .none kV_Store_become dc_Store_become pm_Store_become an_Store_become cd_Store_become ct_Store_become),sl_Store_become⟩)
   (c_Store_become:PySem.W.codeIn K cd_Store_become "Store.become"=true)
   (k_Store_become:PySem.W.keepIn K (.ref f_Store_become)=true)
   (a_Store_write:PySem.W.findIn K (.ref C_Store) "write"=some (some (.ref f_Store_write)))
   (i_Store_write:PySem.W.isFn K (.ref f_Store_write)=true)
   (l_Store_write:K.lookup f_Store_write=some ⟨oc_Store_write,od_Store_write,.func (PySem.W.fnOf "write" "Store.write" (defArgs s_Store_write) (defBody s_Store_write) (defScope s_Store_write) .none kV_Store_write dc_Store_write pm_Store_write an_Store_write cd_Store_write ct_Store_write),sl_Store_write⟩)
   (c_Store_write:PySem.W.codeIn K cd_Store_write "Store.write"=true)
   (k_Store_write:PySem.W.keepIn K (.ref f_Store_write)=true)
   (a_Store_drain:PySem.W.findIn K (.ref C_Store) "drain"=some (some (.ref f_Store_drain)))
   (i_Store_drain:PySem.W.isFn K (.ref f_Store_drain)=true)
   (l_Store_drain:K.lookup f_Store_drain=some ⟨oc_Store_drain,od_Store_drain,.func (PySem.W.fnOf "drain" "Store.drain" (defArgs s_Store_drain) (defBody s_Store_drain) (defScope s_Store_drain) .none kV_Store_drain dc_Store_drain pm_Store_drain an_Store_drain cd_Store_drain ct_Store_drain),sl_Store_drain⟩)
   (c_Store_drain:PySem.W.codeIn K cd_Store_drain "Store.drain"=true)
   (k_Store_drain:PySem.W.keepIn K (.ref f_Store_drain)=true)
   (a_Store_fence:PySem.W.findIn K (.ref C_Store) "fence"=some (some (.ref f_Store_fence)))
   (i_Store_fence:PySem.W.isFn K (.ref f_Store_fence)=true)
   (l_Store_fence:K.lookup f_Store_fence=some ⟨oc_Store_fence,od_Store_fence,.func (PySem.W.fnOf "fence" "Store.fence" (defArgs s_Store_fence) (defBody s_Store_fence) (defScope s_Store_fence) .none kV_Store_fence dc_Store_fence pm_Store_fence an_Store_fence cd_Store_fence ct_Store_fence),sl_Store_fence⟩)
   (c_Store_fence:PySem.W.codeIn K cd_Store_fence "Store.fence"=true)
   (k_Store_fence:PySem.W.keepIn K (.ref f_Store_fence)=true)
   (a_Store_read:PySem.W.findIn K (.ref C_Store) "read"=some (some (.ref f_Store_read)))
   (i_Store_read:PySem.W.isFn K (.ref f_Store_read)=true)
   (l_Store_read:K.lookup f_Store_read=some ⟨oc_Store_read,od_Store_read,.func (PySem.W.fnOf "read" "Store.read" (defArgs s_Store_read) (defBody s_Store_read) (defScope s_Store_read) .none kV_Store_read dc_Store_read pm_Store_read an_Store_read cd_Store_read ct_Store_read),sl_Store_read⟩)
   (c_Store_read:PySem.W.codeIn K cd_Store_read "Store.read"=true)
   (k_Store_read:PySem.W.keepIn K (.ref f_Store_read)=true)
   (a_Store_memory:PySem.W.findIn K (.ref C_Store) "memory"=some (some (.ref f_Store_memory)))
   (i_Store_memory:PySem.W.isFn K (.ref f_Store_memory)=true)
   (l_Store_memory:K.lookup f_Store_memory=some ⟨oc_Store_memory,od_Store_memory,.func (PySem.W.fnOf "memory" "Store.memory" (defArgs s_Store_memory) (defBody s_Store_memory) (defScope s_Store_memory) .none kV_Store_memory dc_Store_memory pm_Store_memory an_Store_memory cd_Store_memory ct_Store_memory),sl_Store_memory⟩)
   (c_Store_memory:PySem.W.codeIn K cd_Store_memory "Store.memory"=true)
   (k_Store_memory:PySem.W.keepIn K (.ref f_Store_memory)=true)
   (a_Store_waits:PySem.W.findIn K (.ref C_Store) "waits"=some (some (.ref f_Store_waits)))
   (i_Store_waits:PySem.W.isFn K (.ref f_Store_waits)=true)
   (l_Store_waits:K.lookup f_Store_waits=some ⟨oc_Store_waits,od_Store_waits,.func (PySem.W.fnOf "waits" "Store.waits" (defArgs s_Store_waits) (defBody s_Store_waits) (defScope s_Store_waits) .none kV_Store_waits dc_Store_waits pm_Store_waits an_Store_waits cd_Store_waits ct_Store_waits),sl_Store_waits⟩)
   (c_Store_waits:PySem.W.codeIn K cd_Store_waits "Store.waits"=true)
   (k_Store_waits:PySem.W.keepIn K (.ref f_Store_waits)=true)
   (a_Store_cells:PySem.W.findIn K (.ref C_Store) "cells"=some (some (.ref f_Store_cells)))
   (i_Store_cells:PySem.W.isFn K (.ref f_Store_cells)=true)
   (l_Store_cells:K.lookup f_Store_cells=some ⟨oc_Store_cells,od_Store_cells,.func (PySem.W.fnOf "cells" "Store.cells" (defArgs s_Store_cells) (defBody s_Store_cells) (defScope s_Store_cells) .none kV_Store_cells dc_Store_cells pm_Store_cells an_Store_cells cd_Store_cells ct_Store_cells),sl_Store_cells⟩)
   (c_Store_cells:PySem.W.codeIn K cd_Store_cells "Store.cells"=true)
   (k_Store_cells:PySem.W.keepIn K (.ref f_Store_cells)=true)
   (a_law_well:PySem.W.nsIn K mainGlobals "_law_well"=some (some (.ref f_law_well)))
   (l_law_well:K.lookup f_law_well=some ⟨oc_law_well,od_law_well,.func (PySem.W.fnOf "_law_well" "_law_well" (defArgs s_law_well) (defBody s_law_well) (defScope s_law_well) .none kV_law_well dc_law_well pm_law_well an_law_well cd_law_well ct_law_well),sl_law_well⟩)
   (c_law_well:PySem.W.codeIn K cd_law_well "_law_well"=true)
   (k_law_well:PySem.W.keepIn K (.ref f_law_well)=true)
   (a_law_draw:PySem.W.nsIn K mainGlobals "_law_draw"=some (some (.ref f_law_draw)))
   (l_law_draw:K.lookup f_law_draw=some ⟨oc_law_draw,od_law_draw,.func (PySem.W.fnOf "_law_draw" "_law_draw" (defArgs s_law_draw) (defBody s_law_draw) (defScope s_law_draw) .none kV_law_draw dc_law_draw pm_law_draw an_law_draw cd_law_draw ct_law_draw),sl_law_draw⟩)
   (c_law_draw:PySem.W.codeIn K cd_law_draw "_law_draw"=true)
   (k_law_draw:PySem.W.keepIn K (.ref f_law_draw)=true)
   (a_law_same:PySem.W.nsIn K mainGlobals "_law_same"=some (some (.ref f_law_same)))
   (l_law_same:K.lookup f_law_same=some ⟨oc_law_same,od_law_same,.func (PySem.W.fnOf "_law_same" "_law_same" (defArgs s_law_same) (defBody s_law_same) (defScope s_law_same) .none kV_law_same dc_law_same pm_law_same an_law_same cd_law_same ct_law_same),sl_law_same⟩)
   (c_law_same:PySem.W.codeIn K cd_law_same "_law_same"=true)
   (k_law_same:PySem.W.keepIn K (.ref f_law_same)=true)
   (a_law_worth:PySem.W.nsIn K mainGlobals "_law_worth"=some (some (.ref f_law_worth)))
   (l_law_worth:K.lookup f_law_worth=some ⟨oc_law_worth,od_law_worth,.func (PySem.W.fnOf "_law_worth" "_law_worth" (defArgs s_law_worth) (defBody s_law_worth) (defScope s_law_worth) .none kV_law_worth dc_law_worth pm_law_worth an_law_worth cd_law_worth ct_law_worth),sl_law_worth⟩)
   (c_law_worth:PySem.W.codeIn K cd_law_worth "_law_worth"=true)
   (k_law_worth:PySem.W.keepIn K (.ref f_law_worth)=true)
   (a_law_size:PySem.W.nsIn K mainGlobals "_law_size"=some (some (.ref f_law_size)))
   (l_law_size:K.lookup f_law_size=some ⟨oc_law_size,od_law_size,.func (PySem.W.fnOf "_law_size" "_law_size" (defArgs s_law_size) (defBody s_law_size) (defScope s_law_size) .none kV_law_size dc_law_size pm_law_size an_law_size cd_law_size ct_law_size),sl_law_size⟩)
   (c_law_size:PySem.W.codeIn K cd_law_size "_law_size"=true)
   (k_law_size:PySem.W.keepIn K (.ref f_law_size)=true)
   (a_law_names:PySem.W.nsIn K mainGlobals "_law_names"=some (some (.ref f_law_names)))
   (l_law_names:K.lookup f_law_names=some ⟨oc_law_names,od_law_names,.func (PySem.W.fnOf "_law_names" "_law_names" (defArgs s_law_names) (defBody s_law_names) (defScope s_law_names) .none kV_law_names dc_law_names pm_law_names an_law_names cd_law_names ct_law_names),sl_law_names⟩)
   (c_law_names:PySem.W.codeIn K cd_law_names "_law_names"=true)
   (k_law_names:PySem.W.keepIn K (.ref f_law_names)=true)
   (a_law_kind:PySem.W.nsIn K mainGlobals "_law_kind"=some (some (.ref f_law_kind)))
   (l_law_kind:K.lookup f_law_kind=some ⟨oc_law_kind,od_law_kind,.func (PySem.W.fnOf "_law_kind" "_law_kind" (defArgs s_law_kind) (defBody s_law_kind) (defScope s_law_kind) .none kV_law_kind dc_law_kind pm_law_kind an_law_kind cd_law_kind ct_law_kind),sl_law_kind⟩)
   (c_law_kind:PySem.W.codeIn K cd_law_kind "_law_kind"=true)
   (k_law_kind:PySem.W.keepIn K (.ref f_law_kind)=true)
   (a_law_asked:PySem.W.nsIn K mainGlobals "_law_asked"=some (some (.ref f_law_asked)))
   (l_law_asked:K.lookup f_law_asked=some ⟨oc_law_asked,od_law_asked,.func (PySem.W.fnOf "_law_asked" "_law_asked" (defArgs s_law_asked) (defBody s_law_asked) (defScope s_law_asked) .none kV_law_asked dc_law_asked pm_law_asked an_law_asked cd_law_asked ct_law_asked),sl_law_asked⟩)
   (c_law_asked:PySem.W.codeIn K cd_law_asked "_law_asked"=true)
   (k_law_asked:PySem.W.keepIn K (.ref f_law_asked)=true)
   (a_law_answered:PySem.W.nsIn K mainGlobals "_law_answered"=some (some (.ref f_law_answered)))
   (l_law_answered:K.lookup f_law_answered=some ⟨oc_law_answered,od_law_answered,.func (PySem.W.fnOf "_law_answered" "_law_answered" (defArgs s_law_answered) (defBody s_law_answered) (defScope s_law_answered) .none kV_law_answered dc_law_answered pm_law_answered an_law_answered cd_law_answered ct_law_answered),sl_law_answered⟩)
   (c_law_answered:PySem.W.codeIn K cd_law_answered "_law_answered"=true)
   (k_law_answered:PySem.W.keepIn K (.ref f_law_answered)=true)
   (a_law_seen:PySem.W.nsIn K mainGlobals "_law_seen"=some (some (.ref f_law_seen)))
   (l_law_seen:K.lookup f_law_seen=some ⟨oc_law_seen,od_law_seen,.func (PySem.W.fnOf "_law_seen" "_law_seen" (defArgs s_law_seen) (defBody s_law_seen) (defScope s_law_seen) .none kV_law_seen dc_law_seen pm_law_seen an_law_seen cd_law_seen ct_law_seen),sl_law_seen⟩)
   (c_law_seen:PySem.W.codeIn K cd_law_seen "_law_seen"=true)
   (k_law_seen:PySem.W.keepIn K (.ref f_law_seen)=true)
   (a_law_refused:PySem.W.nsIn K mainGlobals "_law_refused"=some (some (.ref f_law_refused)))
   (l_law_refused:K.lookup f_law_refused=some ⟨oc_law_refused,od_law_refused,.func (PySem.W.fnOf "_law_refused" "_law_refused" (defArgs s_law_refused) (defBody s_law_refused) (defScope s_law_refused) .none kV_law_refused dc_law_refused pm_law_refused an_law_refused cd_law_refused ct_law_refused),sl_law_refused⟩)
   (c_law_refused:PySem.W.codeIn K cd_law_refused "_law_refused"=true)
   (k_law_refused:PySem.W.keepIn K (.ref f_law_refused)=true)
   (a_law_all_asked:PySem.W.nsIn K mainGlobals "_law_all_asked"=some (some (.ref f_law_all_asked)))
   (l_law_all_asked:K.lookup f_law_all_asked=some ⟨oc_law_all_asked,od_law_all_asked,.func (PySem.W.fnOf "_law_all_asked" "_law_all_asked" (defArgs s_law_all_asked) (defBody s_law_all_asked) (defScope s_law_all_asked) .none kV_law_all_asked dc_law_all_asked pm_law_all_asked an_law_all_asked cd_law_all_asked ct_law_all_asked),sl_law_all_asked⟩)
   (c_law_all_asked:PySem.W.codeIn K cd_law_all_asked "_law_all_asked"=true)
   (k_law_all_asked:PySem.W.keepIn K (.ref f_law_all_asked)=true)
   (a_law_asked_again:PySem.W.nsIn K mainGlobals "_law_asked_again"=some (some (.ref f_law_asked_again)))
   (l_law_asked_again:K.lookup f_law_asked_again=some ⟨oc_law_asked_again,od_law_asked_again,.func (PySem.W.fnOf "_law_asked_again" "_law_asked_again" (defArgs s_law_asked_again) (defBody s_law_asked_again) (defScope s_law_asked_again) .none kV_law_asked_again dc_law_asked_again pm_law_asked_again an_law_asked_again cd_law_asked_again ct_law_asked_again),sl_law_asked_again⟩)
   (c_law_asked_again:PySem.W.codeIn K cd_law_asked_again "_law_asked_again"=true)
   (k_law_asked_again:PySem.W.keepIn K (.ref f_law_asked_again)=true)
   (a_law_answered_all:PySem.W.nsIn K mainGlobals "_law_answered_all"=some (some (.ref f_law_answered_all)))
   (l_law_answered_all:K.lookup f_law_answered_all=some ⟨oc_law_answered_all,od_law_answered_all,.func (PySem.W.fnOf "_law_answered_all" "_law_answered_all" (defArgs s_law_answered_all) (defBody s_law_answered_all) (defScope s_law_answered_all) .none kV_law_answered_all dc_law_answered_all pm_law_answered_all an_law_answered_all cd_law_answered_all ct_law_answered_all),sl_law_answered_all⟩)
   (c_law_answered_all:PySem.W.codeIn K cd_law_answered_all "_law_answered_all"=true)
   (k_law_answered_all:PySem.W.keepIn K (.ref f_law_answered_all)=true)
   (a_law:PySem.W.nsIn K mainGlobals "law"=some (some (.ref f_law)))
   (l_law:K.lookup f_law=some ⟨oc_law,od_law,.func (PySem.W.fnOf "law" "law" (defArgs s_law) (defBody s_law) (defScope s_law) .none kV_law dc_law pm_law an_law cd_law ct_law),sl_law⟩)
   (c_law:PySem.W.codeIn K cd_law "law"=true)
   (k_law:PySem.W.keepIn K (.ref f_law)=true)
   (pg_Ring:PySem.W.plainGet K C_Ring Str.empty=true)
   (hd_Ring:PySem.W.hasDictIn K C_Ring=true)
   (po_Ring:PySem.W.plainOver K C_Ring=true)
   (sa_Ring:PySem.W.findIn K (.ref C_Ring) "__setattr__"=some (some (.builtin "object.__setattr__")))
   (mk_Ring:PySem.W.makesIn K C_Ring=true)
   (kc_Ring:PySem.W.keepIn K (.ref C_Ring)=true)
   (na_Ring_shelf:PySem.W.findIn K (.ref C_Ring) "shelf"=some none)
   (na_Ring_side:PySem.W.findIn K (.ref C_Ring) "side"=some none)
   (na_Ring_word:PySem.W.findIn K (.ref C_Ring) "word"=some none)
   (na_Ring_laid:PySem.W.findIn K (.ref C_Ring) "laid"=some none)
   (na_Ring_fetched:PySem.W.findIn K (.ref C_Ring) "fetched"=some none)
   (na_Ring_size:PySem.W.findIn K (.ref C_Ring) "size"=some none)
   (na_Ring_rounds:PySem.W.findIn K (.ref C_Ring) "rounds"=some none)
   (na_Ring_counter_first:PySem.W.findIn K (.ref C_Ring) "counter_first"=some none)
   (pg_Hand:PySem.W.plainGet K C_Hand Str.empty=true)
   (hd_Hand:PySem.W.hasDictIn K C_Hand=true)
   (po_Hand:PySem.W.plainOver K C_Hand=true)
   (sa_Hand:PySem.W.findIn K (.ref C_Hand) "__setattr__"=some (some (.builtin "object.__setattr__")))
   (mk_Hand:PySem.W.makesIn K C_Hand=true)
   (kc_Hand:PySem.W.keepIn K (.ref C_Hand)=true)
   (na_Hand_asks:PySem.W.findIn K (.ref C_Hand) "asks"=some none)
   (na_Hand_answers:PySem.W.findIn K (.ref C_Hand) "answers"=some none)
   (na_Hand_names:PySem.W.findIn K (.ref C_Hand) "names"=some none)
   (na_Hand_going:PySem.W.findIn K (.ref C_Hand) "going"=some none)
   (pg_Heart:PySem.W.plainGet K C_Heart Str.empty=true)
   (hd_Heart:PySem.W.hasDictIn K C_Heart=true)
   (po_Heart:PySem.W.plainOver K C_Heart=true)
   (sa_Heart:PySem.W.findIn K (.ref C_Heart) "__setattr__"=some (some (.builtin "object.__setattr__")))
   (mk_Heart:PySem.W.makesIn K C_Heart=true)
   (kc_Heart:PySem.W.keepIn K (.ref C_Heart)=true)
   (na_Heart_asks:PySem.W.findIn K (.ref C_Heart) "asks"=some none)
   (na_Heart_answers:PySem.W.findIn K (.ref C_Heart) "answers"=some none)
   (na_Heart_doing:PySem.W.findIn K (.ref C_Heart) "doing"=some none)
   (pg_Store:PySem.W.plainGet K C_Store Str.empty=true)
   (hd_Store:PySem.W.hasDictIn K C_Store=true)
   (po_Store:PySem.W.plainOver K C_Store=true)
   (sa_Store:PySem.W.findIn K (.ref C_Store) "__setattr__"=some (some (.builtin "object.__setattr__")))
   (mk_Store:PySem.W.makesIn K C_Store=true)
   (kc_Store:PySem.W.keepIn K (.ref C_Store)=true)
   (na_Store_held:PySem.W.findIn K (.ref C_Store) "held"=some none)
   (na_Store_rows:PySem.W.findIn K (.ref C_Store) "rows"=some none)
   (n_ValueError:PySem.W.nsIn K mainGlobals "ValueError"=some none)
   (n_bool:PySem.W.nsIn K mainGlobals "bool"=some none)
   (n_int:PySem.W.nsIn K mainGlobals "int"=some none)
   (n_isinstance:PySem.W.nsIn K mainGlobals "isinstance"=some none)
   (n_len:PySem.W.nsIn K mainGlobals "len"=some none)
   (n_list:PySem.W.nsIn K mainGlobals "list"=some none)
   (n_min:PySem.W.nsIn K mainGlobals "min"=some none)
   (n_range:PySem.W.nsIn K mainGlobals "range"=some none)
   (n_reversed:PySem.W.nsIn K mainGlobals "reversed"=some none)
   (n_sorted:PySem.W.nsIn K mainGlobals "sorted"=some none)
   (n_str:PySem.W.nsIn K mainGlobals "str"=some none)
   (n_tuple:PySem.W.nsIn K mainGlobals "tuple"=some none)
   (n_zip:PySem.W.nsIn K mainGlobals "zip"=some none)
   (aX_RingError:PySem.W.nsIn K mainGlobals "RingError"=some (some (.ref C_RingError)))
   (aX_Full:PySem.W.nsIn K mainGlobals "Full"=some (some (.ref C_Full)))
   (aX_NoName:PySem.W.nsIn K mainGlobals "NoName"=some (some (.ref C_NoName)))
   (aX_NoTask:PySem.W.nsIn K mainGlobals "NoTask"=some (some (.ref C_NoTask)))
   (aX_NoDeed:PySem.W.nsIn K mainGlobals "NoDeed"=some (some (.ref C_NoDeed)))
   (aX_NoRow:PySem.W.nsIn K mainGlobals "NoRow"=some (some (.ref C_NoRow)))
   (aT_ASKS:PySem.W.nsIn K mainGlobals "ASKS"=some (some (.ref T_ASKS)))
   (kT_ASKS:K.lookup T_ASKS=some ⟨.type "tuple",tod_ASKS,.seq #[.str "ask" tt0_ASKS,.str "asked" tt1_ASKS,.str "taken" tt2_ASKS] tn_ASKS,tsl_ASKS⟩)
   (aT_ANSWERS:PySem.W.nsIn K mainGlobals "ANSWERS"=some (some (.ref T_ANSWERS)))
   (kT_ANSWERS:K.lookup T_ANSWERS=some ⟨.type "tuple",tod_ANSWERS,.seq #[.str "answer" tt0_ANSWERS,.str "answered" tt1_ANSWERS,.str "handed" tt2_ANSWERS] tn_ANSWERS,tsl_ANSWERS⟩)
   (xc_Full:PySem.W.excIn K C_Full veB "ValueError.__new__"=true)
   (xc_NoName:PySem.W.excIn K C_NoName veB "ValueError.__new__"=true)
   (xc_NoTask:PySem.W.excIn K C_NoTask veB "ValueError.__new__"=true)
   (xk_ga_Full:PySem.W.findIn K (.ref C_Full) "__getattribute__"=some (some (.builtin "BaseException.__getattribute__")))
   (xk_gt_Full:PySem.W.findIn K (.ref C_Full) "__getattr__"=some none)
   (xk_cl_Full:PySem.W.findIn K (.ref C_Full) "__class__"=some (some (.builtin "object.__class__")))
   (xk_ob_Full:PySem.W.mroIn K C_Full (.type "object")=some true)
   (xk_be_Full:PySem.W.subIn K (.ref C_Full) (.type "BaseException")=some true)
   (xk_is_Full:PySem.W.isClsIn K C_Full=true)
   (xk_ga_NoName:PySem.W.findIn K (.ref C_NoName) "__getattribute__"=some (some (.builtin "BaseException.__getattribute__")))
   (xk_gt_NoName:PySem.W.findIn K (.ref C_NoName) "__getattr__"=some none)
   (xk_cl_NoName:PySem.W.findIn K (.ref C_NoName) "__class__"=some (some (.builtin "object.__class__")))
   (xk_ob_NoName:PySem.W.mroIn K C_NoName (.type "object")=some true)
   (xk_be_NoName:PySem.W.subIn K (.ref C_NoName) (.type "BaseException")=some true)
   (xk_is_NoName:PySem.W.isClsIn K C_NoName=true)
   (xk_ga_NoTask:PySem.W.findIn K (.ref C_NoTask) "__getattribute__"=some (some (.builtin "BaseException.__getattribute__")))
   (xk_gt_NoTask:PySem.W.findIn K (.ref C_NoTask) "__getattr__"=some none)
   (xk_cl_NoTask:PySem.W.findIn K (.ref C_NoTask) "__class__"=some (some (.builtin "object.__class__")))
   (xk_ob_NoTask:PySem.W.mroIn K C_NoTask (.type "object")=some true)
   (xk_be_NoTask:PySem.W.subIn K (.ref C_NoTask) (.type "BaseException")=some true)
   (xk_is_NoTask:PySem.W.isClsIn K C_NoTask=true)
   (mo_em_f:PySem.W.exmOne K (.ref C_Full) (.ref C_RingError)=some true)
   (mo_ki_f_Full:PySem.W.kitOne K (.ref C_Full) (.ref C_Full)=some true)
   (mo_ki_f_NoName:PySem.W.kitOne K (.ref C_Full) (.ref C_NoName)=some false)
   (mo_ki_f_NoTask:PySem.W.kitOne K (.ref C_Full) (.ref C_NoTask)=some false)
   (mo_ki_f_NoDeed:PySem.W.kitOne K (.ref C_Full) (.ref C_NoDeed)=some false)
   (mo_ki_f_NoRow:PySem.W.kitOne K (.ref C_Full) (.ref C_NoRow)=some false)
   (mo_ki_f_ValueError:PySem.W.kitOne K (.ref C_Full) (.type "ValueError")=some true)
   (mo_em_n:PySem.W.exmOne K (.ref C_NoName) (.ref C_RingError)=some true)
   (mo_ki_n_Full:PySem.W.kitOne K (.ref C_NoName) (.ref C_Full)=some false)
   (mo_ki_n_NoName:PySem.W.kitOne K (.ref C_NoName) (.ref C_NoName)=some true)
   (mo_ki_n_NoTask:PySem.W.kitOne K (.ref C_NoName) (.ref C_NoTask)=some false)
   (mo_ki_n_NoDeed:PySem.W.kitOne K (.ref C_NoName) (.ref C_NoDeed)=some false)
   (mo_ki_n_NoRow:PySem.W.kitOne K (.ref C_NoName) (.ref C_NoRow)=some false)
   (mo_ki_n_ValueError:PySem.W.kitOne K (.ref C_NoName) (.type "ValueError")=some true)
   (mo_em_t:PySem.W.exmOne K (.ref C_NoTask) (.ref C_RingError)=some true)
   (mo_ki_t_Full:PySem.W.kitOne K (.ref C_NoTask) (.ref C_Full)=some false)
   (mo_ki_t_NoName:PySem.W.kitOne K (.ref C_NoTask) (.ref C_NoName)=some false)
   (mo_ki_t_NoTask:PySem.W.kitOne K (.ref C_NoTask) (.ref C_NoTask)=some true)
   (mo_ki_t_NoDeed:PySem.W.kitOne K (.ref C_NoTask) (.ref C_NoDeed)=some false)
   (mo_ki_t_NoRow:PySem.W.kitOne K (.ref C_NoTask) (.ref C_NoRow)=some false)
   (mo_ki_t_ValueError:PySem.W.kitOne K (.ref C_NoTask) (.type "ValueError")=some true) :
   ∃ fd:FuncData,(∀ (s:Shared) (v:Value),BindsTo s fd ⟨[v],[]⟩ [("script",v)])/\∀ base:Heap,K.In base->base.Ns mainGlobals mg->FnOk l.prog w K mg base CX0 17 fa fd ["script"] (sp_law K):=by
 have e:=hfa.symm.trans (PySem.W.mg_of X G a_law)
 cases e
 have F_wall:=fun_mk (st:=s_wall) l_wall c_wall k_wall
 have B_wall:=F_wall.binds (ps:=["k"]) λ_ _ _ _ _ _ us hl=>match us,hl with | [_],_=>rfl
 have F_next_counter:=fun_mk (st:=s_next_counter) l_next_counter c_next_counter k_next_counter
 have B_next_counter:=F_next_counter.binds (ps:=["counter","size","rounds"]) λ_ _ _ _ _ _ us hl=>match us,hl with | [_,_,_],_=>rfl
 have F_place_of:=fun_mk (st:=s_place_of) l_place_of c_place_of k_place_of
 have B_place_of:=F_place_of.binds (ps:=["counter","size"]) λ_ _ _ _ _ _ us hl=>match us,hl with | [_,_],_=>rfl
 have F_ahead_by:=fun_mk (st:=s_ahead_by) l_ahead_by c_ahead_by k_ahead_by
 have B_ahead_by:=F_ahead_by.binds (ps:=["one","other","size","rounds"]) λ_ _ _ _ _ _ us hl=>match us,hl with | [_,_,_,_],_=>rfl
 have F_rounds_with:=fun_mk (st:=s_rounds_with) l_rounds_with c_rounds_with k_rounds_with
 have B_rounds_with:=F_rounds_with.binds (ps:=["rounds","faults"]) λ_ _ _ _ _ _ us hl=>match us,hl with | [_,_],_=>rfl
 have F_Ring__init:=fun_mk (st:=s_Ring__init) l_Ring__init c_Ring__init k_Ring__init
 have B_Ring__init:=F_Ring__init.binds (ps:=["self","store","side","words","size","rounds","faults"]) λ_ _ _ _ _ _ us hl=>match us,hl with | [_,_,_,_,_,_,_],_=>rfl
 have F_Ring_filled:=fun_mk (st:=s_Ring_filled) l_Ring_filled c_Ring_filled k_Ring_filled
 have B_Ring_filled:=F_Ring_filled.binds (ps:=["self"]) λ_ _ _ _ _ _ us hl=>match us,hl with | [_],_=>rfl
 have F_Ring_is_full:=fun_mk (st:=s_Ring_is_full) l_Ring_is_full c_Ring_is_full k_Ring_is_full
 have B_Ring_is_full:=F_Ring_is_full.binds (ps:=["self"]) λ_ _ _ _ _ _ us hl=>match us,hl with | [_],_=>rfl
 have F_Ring_place_at:=fun_mk (st:=s_Ring_place_at) l_Ring_place_at c_Ring_place_at k_Ring_place_at
 have B_Ring_place_at:=F_Ring_place_at.binds (ps:=["self","counter"]) λ_ _ _ _ _ _ us hl=>match us,hl with | [_,_],_=>rfl
 have F_Ring_write_further:=fun_mk (st:=s_Ring_write_further) l_Ring_write_further c_Ring_write_further k_Ring_write_further
 have B_Ring_write_further:=F_Ring_write_further.binds (ps:=["self","cell","counter"]) λ_ _ _ _ _ _ us hl=>match us,hl with | [_,_,_],_=>rfl
 have F_Ring_lay:=fun_mk (st:=s_Ring_lay) l_Ring_lay c_Ring_lay k_Ring_lay
 have B_Ring_lay:=F_Ring_lay.binds (ps:=["self","name","worth"]) λ_ _ _ _ _ _ us hl=>match us,hl with | [_,_,_],_=>rfl
 have F_Ring_fetch:=fun_mk (st:=s_Ring_fetch) l_Ring_fetch c_Ring_fetch k_Ring_fetch
 have B_Ring_fetch:=F_Ring_fetch.binds (ps:=["self"]) λ_ _ _ _ _ _ us hl=>match us,hl with | [_],_=>rfl
 have F_Hand__init:=fun_mk (st:=s_Hand__init) l_Hand__init c_Hand__init k_Hand__init
 have B_Hand__init:=F_Hand__init.binds (ps:=["self","store","size","rounds","names","faults"]) λ_ _ _ _ _ _ us hl=>match us,hl with | [_,_,_,_,_,_],_=>rfl
 have F_Hand_become:=fun_mk (st:=s_Hand_become) l_Hand_become c_Hand_become k_Hand_become
 have B_Hand_become:=F_Hand_become.binds (ps:=["self","one"]) λ_ _ _ _ _ _ us hl=>match us,hl with | [_,_],_=>rfl
 have F_Hand_least_free:=fun_mk (st:=s_Hand_least_free) l_Hand_least_free c_Hand_least_free k_Hand_least_free
 have B_Hand_least_free:=F_Hand_least_free.binds (ps:=["self"]) λ_ _ _ _ _ _ us hl=>match us,hl with | [_],_=>rfl
 have F_Hand_check_ask:=fun_mk (st:=s_Hand_check_ask) l_Hand_check_ask c_Hand_check_ask k_Hand_check_ask
 have B_Hand_check_ask:=F_Hand_check_ask.binds (ps:=["self"]) λ_ _ _ _ _ _ us hl=>match us,hl with | [_],_=>rfl
 have F_Hand_ask:=fun_mk (st:=s_Hand_ask) l_Hand_ask c_Hand_ask k_Hand_ask
 have B_Hand_ask:=F_Hand_ask.binds (ps:=["self","worth"]) λ_ _ _ _ _ _ us hl=>match us,hl with | [_,_],_=>rfl
 have F_Hand_collect:=fun_mk (st:=s_Hand_collect) l_Hand_collect c_Hand_collect k_Hand_collect
 have B_Hand_collect:=F_Hand_collect.binds (ps:=["self"]) λ_ _ _ _ _ _ us hl=>match us,hl with | [_],_=>rfl
 have F_Hand_under_way:=fun_mk (st:=s_Hand_under_way) l_Hand_under_way c_Hand_under_way k_Hand_under_way
 have B_Hand_under_way:=F_Hand_under_way.binds (ps:=["self"]) λ_ _ _ _ _ _ us hl=>match us,hl with | [_],_=>rfl
 have F_Hand_something_waits:=fun_mk (st:=s_Hand_something_waits) l_Hand_something_waits c_Hand_something_waits k_Hand_something_waits
 have B_Hand_something_waits:=F_Hand_something_waits.binds (ps:=["self"]) λ_ _ _ _ _ _ us hl=>match us,hl with | [_],_=>rfl
 have F_Heart__init:=fun_mk (st:=s_Heart__init) l_Heart__init c_Heart__init k_Heart__init
 have B_Heart__init:=F_Heart__init.binds (ps:=["self","store","size","rounds","faults"]) λ_ _ _ _ _ _ us hl=>match us,hl with | [_,_,_,_,_],_=>rfl
 have F_Heart_become:=fun_mk (st:=s_Heart_become) l_Heart_become c_Heart_become k_Heart_become
 have B_Heart_become:=F_Heart_become.binds (ps:=["self","one"]) λ_ _ _ _ _ _ us hl=>match us,hl with | [_,_],_=>rfl
 have F_Heart_take:=fun_mk (st:=s_Heart_take) l_Heart_take c_Heart_take k_Heart_take
 have B_Heart_take:=F_Heart_take.binds (ps:=["self"]) λ_ _ _ _ _ _ us hl=>match us,hl with | [_],_=>rfl
 have F_Heart_check_answer:=fun_mk (st:=s_Heart_check_answer) l_Heart_check_answer c_Heart_check_answer k_Heart_check_answer
 have B_Heart_check_answer:=F_Heart_check_answer.binds (ps:=["self","name"]) λ_ _ _ _ _ _ us hl=>match us,hl with | [_,_],_=>rfl
 have F_Heart_answer:=fun_mk (st:=s_Heart_answer) l_Heart_answer c_Heart_answer k_Heart_answer
 have B_Heart_answer:=F_Heart_answer.binds (ps:=["self","name","worth"]) λ_ _ _ _ _ _ us hl=>match us,hl with | [_,_,_],_=>rfl
 have F_Heart_tasks:=fun_mk (st:=s_Heart_tasks) l_Heart_tasks c_Heart_tasks k_Heart_tasks
 have B_Heart_tasks:=F_Heart_tasks.binds (ps:=["self"]) λ_ _ _ _ _ _ us hl=>match us,hl with | [_],_=>rfl
 have F_Heart_something_waits:=fun_mk (st:=s_Heart_something_waits) l_Heart_something_waits c_Heart_something_waits k_Heart_something_waits
 have B_Heart_something_waits:=F_Heart_something_waits.binds (ps:=["self"]) λ_ _ _ _ _ _ us hl=>match us,hl with | [_],_=>rfl
 have F_Store__init:=fun_mk (st:=s_Store__init) l_Store__init c_Store__init k_Store__init
 have B_Store__init:=F_Store__init.binds (ps:=["self"]) λ_ _ _ _ _ _ us hl=>match us,hl with | [_],_=>rfl
 have F_Store_become:=fun_mk (st:=s_Store_become) l_Store_become c_Store_become k_Store_become
 have B_Store_become:=F_Store_become.binds (ps:=["self","one"]) λ_ _ _ _ _ _ us hl=>match us,hl with | [_,_],_=>rfl
 have F_Store_write:=fun_mk (st:=s_Store_write) l_Store_write c_Store_write k_Store_write
 have B_Store_write:=F_Store_write.binds (ps:=["self","side","cell","worth"]) λ_ _ _ _ _ _ us hl=>match us,hl with | [_,_,_,_],_=>rfl
 have F_Store_drain:=fun_mk (st:=s_Store_drain) l_Store_drain c_Store_drain k_Store_drain
 have B_Store_drain:=F_Store_drain.binds (ps:=["self","side"]) λ_ _ _ _ _ _ us hl=>match us,hl with | [_,_],_=>rfl
 have F_Store_fence:=fun_mk (st:=s_Store_fence) l_Store_fence c_Store_fence k_Store_fence
 have B_Store_fence:=F_Store_fence.binds (ps:=["self","side"]) λ_ _ _ _ _ _ us hl=>match us,hl with | [_,_],_=>rfl
 have F_Store_read:=fun_mk (st:=s_Store_read) l_Store_read c_Store_read k_Store_read
 have B_Store_read:=F_Store_read.binds (ps:=["self","side","cell"]) λ_ _ _ _ _ _ us hl=>match us,hl with | [_,_,_],_=>rfl
 have F_Store_memory:=fun_mk (st:=s_Store_memory) l_Store_memory c_Store_memory k_Store_memory
 have B_Store_memory:=F_Store_memory.binds (ps:=["self","cell"]) λ_ _ _ _ _ _ us hl=>match us,hl with | [_,_],_=>rfl
 have F_Store_waits:=fun_mk (st:=s_Store_waits) l_Store_waits c_Store_waits k_Store_waits
 have B_Store_waits:=F_Store_waits.binds (ps:=["self","side"]) λ_ _ _ _ _ _ us hl=>match us,hl with | [_,_],_=>rfl
 have F_Store_cells:=fun_mk (st:=s_Store_cells) l_Store_cells c_Store_cells k_Store_cells
 have B_Store_cells:=F_Store_cells.binds (ps:=["self"]) λ_ _ _ _ _ _ us hl=>match us,hl with | [_],_=>rfl
 have F_law_well:=fun_mk (st:=s_law_well) l_law_well c_law_well k_law_well
 have B_law_well:=F_law_well.binds (ps:=["cell"]) λ_ _ _ _ _ _ us hl=>match us,hl with | [_],_=>rfl
 have F_law_draw:=fun_mk (st:=s_law_draw) l_law_draw c_law_draw k_law_draw
 have B_law_draw:=F_law_draw.binds (ps:=["well","many"]) λ_ _ _ _ _ _ us hl=>match us,hl with | [_,_],_=>rfl
 have F_law_same:=fun_mk (st:=s_law_same) l_law_same c_law_same k_law_same
 have B_law_same:=F_law_same.binds (ps:=["got","due"]) λ_ _ _ _ _ _ us hl=>match us,hl with | [_,_],_=>rfl
 have F_law_worth:=fun_mk (st:=s_law_worth) l_law_worth c_law_worth k_law_worth
 have B_law_worth:=F_law_worth.binds (ps:=["well"]) λ_ _ _ _ _ _ us hl=>match us,hl with | [_],_=>rfl
 have F_law_size:=fun_mk (st:=s_law_size) l_law_size c_law_size k_law_size
 have B_law_size:=F_law_size.binds (ps:=["well"]) λ_ _ _ _ _ _ us hl=>match us,hl with | [_],_=>rfl
 have F_law_names:=fun_mk (st:=s_law_names) l_law_names c_law_names k_law_names
 have B_law_names:=F_law_names.binds (ps:=["well"]) λ_ _ _ _ _ _ us hl=>match us,hl with | [_],_=>rfl
 have F_law_kind:=fun_mk (st:=s_law_kind) l_law_kind c_law_kind k_law_kind
 have B_law_kind:=F_law_kind.binds (ps:=["error"]) λ_ _ _ _ _ _ us hl=>match us,hl with | [_],_=>rfl
 have F_law_asked:=fun_mk (st:=s_law_asked) l_law_asked c_law_asked k_law_asked
 have B_law_asked:=F_law_asked.binds (ps:=["hand","worth"]) λ_ _ _ _ _ _ us hl=>match us,hl with | [_,_],_=>rfl
 have F_law_answered:=fun_mk (st:=s_law_answered) l_law_answered c_law_answered k_law_answered
 have B_law_answered:=F_law_answered.binds (ps:=["heart","name","worth"]) λ_ _ _ _ _ _ us hl=>match us,hl with | [_,_,_],_=>rfl
 have F_law_seen:=fun_mk (st:=s_law_seen) l_law_seen c_law_seen k_law_seen
 have B_law_seen:=F_law_seen.binds (ps:=["store","hand","heart"]) λ_ _ _ _ _ _ us hl=>match us,hl with | [_,_,_],_=>rfl
 have F_law_refused:=fun_mk (st:=s_law_refused) l_law_refused c_law_refused k_law_refused
 have B_law_refused:=F_law_refused.binds (ps:=["well","store","hand","heart","due"]) λ_ _ _ _ _ _ us hl=>match us,hl with | [_,_,_,_,_],_=>rfl
 have F_law_all_asked:=fun_mk (st:=s_law_all_asked) l_law_all_asked c_law_all_asked k_law_all_asked
 have B_law_all_asked:=F_law_all_asked.binds (ps:=["well","store","hand","heart","size","names"]) λ_ _ _ _ _ _ us hl=>match us,hl with | [_,_,_,_,_,_],_=>rfl
 have F_law_asked_again:=fun_mk (st:=s_law_asked_again) l_law_asked_again c_law_asked_again k_law_asked_again
 have B_law_asked_again:=F_law_asked_again.binds (ps:=["well","store","hand","heart","size","names"]) λ_ _ _ _ _ _ us hl=>match us,hl with | [_,_,_,_,_,_],_=>rfl
 have F_law_answered_all:=fun_mk (st:=s_law_answered_all) l_law_answered_all c_law_answered_all k_law_answered_all
 have B_law_answered_all:=F_law_answered_all.binds (ps:=["well","store","hand","heart","size","names"]) λ_ _ _ _ _ _ us hl=>match us,hl with | [_,_,_,_,_,_],_=>rfl
 have F_law:=fun_mk (st:=s_law) l_law c_law k_law
 have B_law:=F_law.binds (ps:=["script"]) λ_ _ _ _ _ _ us hl=>match us,hl with | [_],_=>rfl
 let ad:Ad:=⟨f_wall,f_next_counter,f_place_of,f_ahead_by,f_rounds_with,f_Ring__init,f_Ring_filled,f_Ring_is_full,f_Ring_place_at,f_Ring_write_further,f_Ring_lay,f_Ring_fetch,f_Hand__init,f_Hand_become,f_Hand_least_free,f_Hand_check_ask,f_Hand_ask,f_Hand_collect,f_Hand_under_way,f_Hand_something_waits,f_Heart__init,f_Heart_become,f_Heart_take,f_Heart_check_answer,f_Heart_answer,f_Heart_tasks,f_Heart_something_waits,f_Store__init,f_Store_become,f_Store_write,f_Store_drain,f_Store_fence,f_Store_read,f_Store_memory,f_Store_waits,f_Store_cells,f_law_well,f_law_draw,f_law_same,f_law_worth,f_law_size,f_law_names,f_law_kind,f_law_asked,f_law_answered,f_law_seen,f_law_refused,f_law_all_asked,f_law_asked_again,f_law_answered_all,fa,C_Ring,C_Hand,C_Heart,C_Store,C_RingError,C_Full,C_NoName,C_NoTask,C_NoDeed,C_NoRow,T_ASKS,T_ANSWERS⟩
 let dd:Fd:=⟨PySem.W.fnOf "_wall" "_wall" (defArgs s_wall) (defBody s_wall) (defScope s_wall) .none kV_wall dc_wall pm_wall an_wall cd_wall ct_wall,PySem.W.fnOf "next_counter" "next_counter" (defArgs s_next_counter) (defBody s_next_counter) (defScope s_next_counter) .none kV_next_counter dc_next_counter pm_next_counter an_next_counter cd_next_counter ct_next_counter,PySem.W.fnOf "place_of" "place_of" (defArgs s_place_of) (defBody s_place_of) (defScope s_place_of) .none kV_place_of dc_place_of pm_place_of an_place_of cd_place_of ct_place_of,PySem.W.fnOf "ahead_by" "ahead_by" (defArgs s_ahead_by) (defBody s_ahead_by) (defScope s_ahead_by) .none kV_ahead_by dc_ahead_by pm_ahead_by an_ahead_by cd_ahead_by ct_ahead_by,PySem.W.fnOf "rounds_with" "rounds_with" (defArgs s_rounds_with) (defBody s_rounds_with) (defScope s_rounds_with) .none kV_rounds_with dc_rounds_with pm_rounds_with an_rounds_with cd_rounds_with ct_rounds_with,PySem.W.fnOf "__init__" "Ring.__init__" (defArgs s_Ring__init) (defBody s_Ring__init) (defScope s_Ring__init) .none kV_Ring__init dc_Ring__init pm_Ring__init an_Ring__init cd_Ring__init ct_Ring__init,PySem.W.fnOf "filled" "Ring.filled" (defArgs s_Ring_filled) (defBody s_Ring_filled) (defScope s_Ring_filled) .none kV_Ring_filled dc_Ring_filled pm_Ring_filled an_Ring_filled cd_Ring_filled ct_Ring_filled,PySem.W.fnOf "is_full" "Ring.is_full" (defArgs s_Ring_is_full) (defBody s_Ring_is_full) (defScope s_Ring_is_full) .none kV_Ring_is_full dc_Ring_is_full pm_Ring_is_full an_Ring_is_full cd_Ring_is_full ct_Ring_is_full,PySem.W.fnOf "place_at" "Ring.place_at" (defArgs s_Ring_place_at) (defBody s_Ring_place_at) (defScope s_Ring_place_at) .none kV_Ring_place_at dc_Ring_place_at pm_Ring_place_at an_Ring_place_at cd_Ring_place_at ct_Ring_place_at,PySem.W.fnOf "write_further" "Ring.write_further" (defArgs s_Ring_write_further) (defBody s_Ring_write_further) (defScope s_Ring_write_further) .none kV_Ring_write_further dc_Ring_write_further pm_Ring_write_further an_Ring_write_further cd_Ring_write_further ct_Ring_write_further,PySem.W.fnOf "lay" "Ring.lay" (defArgs s_Ring_lay) (defBody s_Ring_lay) (defScope s_Ring_lay) .none kV_Ring_lay dc_Ring_lay pm_Ring_lay an_Ring_lay cd_Ring_lay ct_Ring_lay,PySem.W.fnOf "fetch" "Ring.fetch" (defArgs s_Ring_fetch) (defBody s_Ring_fetch) (defScope s_Ring_fetch) .none kV_Ring_fetch dc_Ring_fetch pm_Ring_fetch an_Ring_fetch cd_Ring_fetch ct_Ring_fetch,PySem.W.fnOf "__init__" "Hand.__init__" (defArgs s_Hand__init) (defBody s_Hand__init) (defScope s_Hand__init) .none kV_Hand__init dc_Hand__init pm_Hand__init an_Hand__init cd_Hand__init ct_Hand__init,PySem.W.fnOf "become" "Hand.become" (defArgs s_Hand_become) (defBody s_Hand_become) (defScope s_Hand_become) .none kV_Hand_become dc_Hand_become pm_Hand_become an_Hand_become cd_Hand_become ct_Hand_become,PySem.W.fnOf "least_free" "Hand.least_free" (defArgs s_Hand_least_free) (defBody s_Hand_least_free) (defScope s_Hand_least_free) .none kV_Hand_least_free dc_Hand_least_free pm_Hand_least_free an_Hand_least_free cd_Hand_least_free ct_Hand_least_free,PySem.W.fnOf "check_ask" "Hand.check_ask" (defArgs s_Hand_check_ask) (defBody s_Hand_check_ask) (defScope s_Hand_check_ask) .none kV_Hand_check_ask dc_Hand_check_ask pm_Hand_check_ask an_Hand_check_ask cd_Hand_check_ask ct_Hand_check_ask,PySem.W.fnOf "ask" "Hand.ask" (defArgs s_Hand_ask) (defBody s_Hand_ask) (defScope s_Hand_ask) .none kV_Hand_ask dc_Hand_ask pm_Hand_ask an_Hand_ask cd_Hand_ask ct_Hand_ask,PySem.W.fnOf "collect" "Hand.collect" (defArgs s_Hand_collect) (defBody s_Hand_collect) (defScope s_Hand_collect) .none kV_Hand_collect dc_Hand_collect pm_Hand_collect an_Hand_collect cd_Hand_collect ct_Hand_collect,PySem.W.fnOf "under_way" "Hand.under_way" (defArgs s_Hand_under_way) (defBody s_Hand_under_way) (defScope s_Hand_under_way) .none kV_Hand_under_way dc_Hand_under_way pm_Hand_under_way an_Hand_under_way cd_Hand_under_way ct_Hand_under_way,PySem.W.fnOf "something_waits" "Hand.something_waits" (defArgs s_Hand_something_waits) (defBody s_Hand_something_waits) (defScope s_Hand_something_waits) .none kV_Hand_something_waits dc_Hand_something_waits pm_Hand_something_waits an_Hand_something_waits cd_Hand_something_waits ct_Hand_something_waits,PySem.W.fnOf "__init__" "Heart.__init__" (defArgs s_Heart__init) (defBody s_Heart__init) (defScope s_Heart__init) .none kV_Heart__init dc_Heart__init pm_Heart__init an_Heart__init cd_Heart__init ct_Heart__init,PySem.W.fnOf "become" "Heart.become" (defArgs s_Heart_become) (defBody s_Heart_become) (defScope s_Heart_become) .none kV_Heart_become dc_Heart_become pm_Heart_become an_Heart_become cd_Heart_become ct_Heart_become,PySem.W.fnOf "take" "Heart.take" (defArgs s_Heart_take) (defBody s_Heart_take) (defScope s_Heart_take) .none kV_Heart_take dc_Heart_take pm_Heart_take an_Heart_take cd_Heart_take ct_Heart_take,PySem.W.fnOf "check_answer" "Heart.check_answer" (defArgs s_Heart_check_answer) (defBody s_Heart_check_answer) (defScope s_Heart_check_answer) .none kV_Heart_check_answer dc_Heart_check_answer pm_Heart_check_answer an_Heart_check_answer cd_Heart_check_answer ct_Heart_check_answer,PySem.W.fnOf "answer" "Heart.answer" (defArgs s_Heart_answer) (defBody s_Heart_answer) (defScope s_Heart_answer) .none kV_Heart_answer dc_Heart_answer pm_Heart_answer an_Heart_answer cd_Heart_answer ct_Heart_answer,PySem.W.fnOf "tasks" "Heart.tasks" (defArgs s_Heart_tasks) (defBody s_Heart_tasks) (defScope s_Heart_tasks) .none kV_Heart_tasks dc_Heart_tasks pm_Heart_tasks an_Heart_tasks cd_Heart_tasks ct_Heart_tasks,PySem.W.fnOf "something_waits" "Heart.something_waits" (defArgs s_Heart_something_waits) (defBody s_Heart_something_waits) (defScope s_Heart_something_waits) .none kV_Heart_something_waits dc_Heart_something_waits pm_Heart_something_waits an_Heart_something_waits cd_Heart_something_waits ct_Heart_something_waits,PySem.W.fnOf "__init__" "Store.__init__" (defArgs s_Store__init) (defBody s_Store__init) (defScope s_Store__init) .none kV_Store__init dc_Store__init pm_Store__init an_Store__init cd_Store__init ct_Store__init,PySem.W.fnOf "become" "Store.become" (defArgs s_Store_become) (defBody s_Store_become) (defScope s_Store_become) .none kV_Store_become dc_Store_become pm_Store_become an_Store_become cd_Store_become ct_Store_become,PySem.W.fnOf "write" "Store.write" (defArgs s_Store_write) (defBody s_Store_write) (defScope s_Store_write) .none kV_Store_write dc_Store_write pm_Store_write an_Store_write cd_Store_write ct_Store_write,PySem.W.fnOf "drain" "Store.drain" (defArgs s_Store_drain) (defBody s_Store_drain) (defScope s_Store_drain) .none kV_Store_drain dc_Store_drain pm_Store_drain an_Store_drain cd_Store_drain ct_Store_drain,PySem.W.fnOf "fence" "Store.fence" (defArgs s_Store_fence) (defBody s_Store_fence) (defScope s_Store_fence) .none kV_Store_fence dc_Store_fence pm_Store_fence an_Store_fence cd_Store_fence ct_Store_fence,PySem.W.fnOf "read" "Store.read" (defArgs s_Store_read) (defBody s_Store_read) (defScope s_Store_read) .none kV_Store_read dc_Store_read pm_Store_read an_Store_read cd_Store_read ct_Store_read,PySem.W.fnOf "memory" "Store.memory" (defArgs s_Store_memory) (defBody s_Store_memory) (defScope s_Store_memory) .none kV_Store_memory dc_Store_memory pm_Store_memory an_Store_memory cd_Store_memory ct_Store_memory,PySem.W.fnOf "waits" "Store.waits" (defArgs s_Store_waits) (defBody s_Store_waits) (defScope s_Store_waits) .none kV_Store_waits dc_Store_waits pm_Store_waits an_Store_waits cd_Store_waits ct_Store_waits,PySem.W.fnOf "cells" "Store.cells" (defArgs s_Store_cells) (defBody s_Store_cells) (defScope s_Store_cells) .none kV_Store_cells dc_Store_cells pm_Store_cells an_Store_cells cd_Store_cells ct_Store_cells,PySem.W.fnOf "_law_well" "_law_well" (defArgs s_law_well) (defBody s_law_well) (defScope s_law_well) .none kV_law_well dc_law_well pm_law_well an_law_well cd_law_well ct_law_well,PySem.W.fnOf "_law_draw" "_law_draw" (defArgs s_law_draw) (defBody s_law_draw) (defScope s_law_draw) .none kV_law_draw dc_law_draw pm_law_draw an_law_draw cd_law_draw ct_law_draw,PySem.W.fnOf "_law_same" "_law_same" (defArgs s_law_same) (defBody s_law_same) (defScope s_law_same) .none kV_law_same dc_law_same pm_law_same an_law_same cd_law_same ct_law_same,PySem.W.fnOf "_law_worth" "_law_worth" (defArgs s_law_worth) (defBody s_law_worth) (defScope s_law_worth) .none kV_law_worth dc_law_worth pm_law_worth an_law_worth cd_law_worth ct_law_worth,PySem.W.fnOf "_law_size" "_law_size" (defArgs s_law_size) (defBody s_law_size) (defScope s_law_size) .none kV_law_size dc_law_size pm_law_size an_law_size cd_law_size ct_law_size,PySem.W.fnOf "_law_names" "_law_names" (defArgs s_law_names) (defBody s_law_names) (defScope s_law_names) .none kV_law_names dc_law_names pm_law_names an_law_names cd_law_names ct_law_names,PySem.W.fnOf "_law_kind" "_law_kind" (defArgs s_law_kind) (defBody s_law_kind) (defScope s_law_kind) .none kV_law_kind dc_law_kind pm_law_kind an_law_kind cd_law_kind ct_law_kind,PySem.W.fnOf "_law_asked" "_law_asked" (defArgs s_law_asked) (defBody s_law_asked) (defScope s_law_asked) .none kV_law_asked dc_law_asked pm_law_asked an_law_asked cd_law_asked ct_law_asked,PySem.W.fnOf "_law_answered" "_law_answered" (defArgs s_law_answered) (defBody s_law_answered) (defScope s_law_answered) .none kV_law_answered dc_law_answered pm_law_answered an_law_answered cd_law_answered ct_law_answered,PySem.W.fnOf "_law_seen" "_law_seen" (defArgs s_law_seen) (defBody s_law_seen) (defScope s_law_seen) .none kV_law_seen dc_law_seen pm_law_seen an_law_seen cd_law_seen ct_law_seen,PySem.W.fnOf "_law_refused" "_law_refused" (defArgs s_law_refused) (defBody s_law_refused) (defScope s_law_refused) .none kV_law_refused dc_law_refused pm_law_refused an_law_refused cd_law_refused ct_law_refused,PySem.W.fnOf "_law_all_asked" "_law_all_asked" (defArgs s_law_all_asked) (defBody s_law_all_asked) (defScope s_law_all_asked) .none kV_law_all_asked dc_law_all_asked pm_law_all_asked an_law_all_asked cd_law_all_asked ct_law_all_asked,PySem.W.fnOf "_law_asked_again" "_law_asked_again" (defArgs s_law_asked_again) (defBody s_law_asked_again) (defScope s_law_asked_again) .none kV_law_asked_again dc_law_asked_again pm_law_asked_again an_law_asked_again cd_law_asked_again ct_law_asked_again,PySem.W.fnOf "_law_answered_all" "_law_answered_all" (defArgs s_law_answered_all) (defBody s_law_answered_all) (defScope s_law_answered_all) .none kV_law_answered_all dc_law_answered_all pm_law_answered_all an_law_answered_all cd_law_answered_all ct_law_answered_all,PySem.W.fnOf "law" "law" (defArgs s_law) (defBody s_law) (defScope s_law) .none kV_law dc_law pm_law an_law cd_law ct_law⟩
 have GG:Gs K mg ad dd:=⟨F_wall,B_wall,PySem.W.mg_of X G a_wall,F_next_counter,B_next_counter,PySem.W.mg_of X G a_next_counter,F_place_of,B_place_of,PySem.W.mg_of X G a_place_of,F_ahead_by,B_ahead_by,PySem.W.mg_of X G a_ahead_by,F_rounds_with,B_rounds_with,PySem.W.mg_of X G a_rounds_with,F_Ring__init,B_Ring__init,F_Ring_filled,B_Ring_filled,⟨a_Ring_filled,i_Ring_filled,k_Ring_filled⟩,F_Ring_is_full,B_Ring_is_full,⟨a_Ring_is_full,i_Ring_is_full,k_Ring_is_full⟩,F_Ring_place_at,B_Ring_place_at,⟨a_Ring_place_at,i_Ring_place_at,k_Ring_place_at⟩,F_Ring_write_further,B_Ring_write_further,⟨a_Ring_write_further,i_Ring_write_further,k_Ring_write_further⟩,F_Ring_lay,B_Ring_lay,⟨a_Ring_lay,i_Ring_lay,k_Ring_lay⟩,F_Ring_fetch,B_Ring_fetch,⟨a_Ring_fetch,i_Ring_fetch,k_Ring_fetch⟩,F_Hand__init,B_Hand__init,F_Hand_become,B_Hand_become,⟨a_Hand_become,i_Hand_become,k_Hand_become⟩,F_Hand_least_free,B_Hand_least_free,⟨a_Hand_least_free,i_Hand_least_free,k_Hand_least_free⟩,F_Hand_check_ask,B_Hand_check_ask,⟨a_Hand_check_ask,i_Hand_check_ask,k_Hand_check_ask⟩,F_Hand_ask,B_Hand_ask,⟨a_Hand_ask,i_Hand_ask,k_Hand_ask⟩,F_Hand_collect,B_Hand_collect,⟨a_Hand_collect,i_Hand_collect,k_Hand_collect⟩,F_Hand_under_way,B_Hand_under_way,⟨a_Hand_under_way,i_Hand_under_way,k_Hand_under_way⟩,F_Hand_something_waits,B_Hand_something_waits,⟨a_Hand_something_waits,i_Hand_something_waits,k_Hand_something_waits⟩,F_Heart__init,B_Heart__init,F_Heart_become,B_Heart_become,⟨a_Heart_become,i_Heart_become,k_Heart_become⟩,F_Heart_take,B_Heart_take,⟨a_Heart_take,i_Heart_take,k_Heart_take⟩,F_Heart_check_answer,B_Heart_check_answer,⟨a_Heart_check_answer,i_Heart_check_answer,k_Heart_check_answer⟩,F_Heart_answer,B_Heart_answer,⟨a_Heart_answer,i_Heart_answer,k_Heart_answer⟩,F_Heart_tasks,B_Heart_tasks,⟨a_Heart_tasks,i_Heart_tasks,k_Heart_tasks⟩,F_Heart_something_waits,B_Heart_something_waits,⟨a_Heart_something_waits,i_Heart_something_waits,k_Heart_something_waits⟩,F_Store__init,B_Store__init,F_Store_become,B_Store_become,⟨a_Store_become,i_Store_become,k_Store_become⟩,F_Store_write,B_Store_write,⟨a_Store_write,i_Store_write,k_Store_write⟩,F_Store_drain,B_Store_drain,⟨a_Store_drain,i_Store_drain,k_Store_drain⟩,F_Store_fence,B_Store_fence,⟨a_Store_fence,i_Store_fence,k_Store_fence⟩,F_Store_read,B_Store_read,⟨a_Store_read,i_Store_read,k_Store_read⟩,F_Store_memory,B_Store_memory,⟨a_Store_memory,i_Store_memory,k_Store_memory⟩,F_Store_waits,B_Store_waits,⟨a_Store_waits,i_Store_waits,k_Store_waits⟩,F_Store_cells,B_Store_cells,⟨a_Store_cells,i_Store_cells,k_Store_cells⟩,F_law_well,B_law_well,PySem.W.mg_of X G a_law_well,F_law_draw,B_law_draw,PySem.W.mg_of X G a_law_draw,F_law_same,B_law_same,PySem.W.mg_of X G a_law_same,F_law_worth,B_law_worth,PySem.W.mg_of X G a_law_worth,F_law_size,B_law_size,PySem.W.mg_of X G a_law_size,F_law_names,B_law_names,PySem.W.mg_of X G a_law_names,F_law_kind,B_law_kind,PySem.W.mg_of X G a_law_kind,F_law_asked,B_law_asked,PySem.W.mg_of X G a_law_asked,F_law_answered,B_law_answered,PySem.W.mg_of X G a_law_answered,F_law_seen,B_law_seen,PySem.W.mg_of X G a_law_seen,F_law_refused,B_law_refused,PySem.W.mg_of X G a_law_refused,F_law_all_asked,B_law_all_asked,PySem.W.mg_of X G a_law_all_asked,F_law_asked_again,B_law_asked_again,PySem.W.mg_of X G a_law_asked_again,F_law_answered_all,B_law_answered_all,PySem.W.mg_of X G a_law_answered_all,F_law,B_law,PySem.W.mg_of X G a_law,⟨pg_Ring,hd_Ring,po_Ring,sa_Ring⟩,PySem.W.mg_of X G aC_Ring,⟨mk_Ring,a_Ring__init,i_Ring__init,kc_Ring⟩,na_Ring_shelf,na_Ring_side,na_Ring_word,na_Ring_laid,na_Ring_fetched,na_Ring_size,na_Ring_rounds,na_Ring_counter_first,⟨pg_Hand,hd_Hand,po_Hand,sa_Hand⟩,PySem.W.mg_of X G aC_Hand,⟨mk_Hand,a_Hand__init,i_Hand__init,kc_Hand⟩,na_Hand_asks,na_Hand_answers,na_Hand_names,na_Hand_going,⟨pg_Heart,hd_Heart,po_Heart,sa_Heart⟩,PySem.W.mg_of X G aC_Heart,⟨mk_Heart,a_Heart__init,i_Heart__init,kc_Heart⟩,na_Heart_asks,na_Heart_answers,na_Heart_doing,⟨pg_Store,hd_Store,po_Store,sa_Store⟩,PySem.W.mg_of X G aC_Store,⟨mk_Store,a_Store__init,i_Store__init,kc_Store⟩,na_Store_held,na_Store_rows,PySem.W.mg_none_of X G n_ValueError,PySem.W.mg_none_of X G n_bool,PySem.W.mg_none_of X G n_int,PySem.W.mg_none_of X G n_isinstance,PySem.W.mg_none_of X G n_len,PySem.W.mg_none_of X G n_list,PySem.W.mg_none_of X G n_min,PySem.W.mg_none_of X G n_range,PySem.W.mg_none_of X G n_reversed,PySem.W.mg_none_of X G n_sorted,PySem.W.mg_none_of X G n_str,PySem.W.mg_none_of X G n_tuple,PySem.W.mg_none_of X G n_zip,PySem.W.mg_of X G aX_RingError,PySem.W.mg_of X G aX_Full,PySem.W.mg_of X G aX_NoName,PySem.W.mg_of X G aX_NoTask,PySem.W.mg_of X G aX_NoDeed,PySem.W.mg_of X G aX_NoRow,PySem.W.mg_of X G aT_ASKS,λ_=>.inr ⟨_,_,_,kT_ASKS,rfl,rfl,by show 3 <= sizeLine;decide,(.cons ⟨_,rfl⟩ (.cons ⟨_,rfl⟩ (.cons ⟨_,rfl⟩ .nil)))⟩,PySem.W.mg_of X G aT_ANSWERS,λ_=>.inr ⟨_,_,_,kT_ANSWERS,rfl,rfl,by show 3 <= sizeLine;decide,(.cons ⟨_,rfl⟩ (.cons ⟨_,rfl⟩ (.cons ⟨_,rfl⟩ .nil)))⟩,xc_Full,xc_NoName,xc_NoTask,⟨xk_ga_Full,xk_gt_Full,xk_cl_Full,xk_ob_Full,xk_be_Full,xk_is_Full⟩,⟨xk_ga_NoName,xk_gt_NoName,xk_cl_NoName,xk_ob_NoName,xk_be_NoName,xk_is_NoName⟩,⟨xk_ga_NoTask,xk_gt_NoTask,xk_cl_NoTask,xk_ob_NoTask,xk_be_NoTask,xk_is_NoTask⟩,mo_em_f,mo_ki_f_Full,mo_ki_f_NoName,mo_ki_f_NoTask,mo_ki_f_NoDeed,mo_ki_f_NoRow,mo_ki_f_ValueError,mo_em_n,mo_ki_n_Full,mo_ki_n_NoName,mo_ki_n_NoTask,mo_ki_n_NoDeed,mo_ki_n_NoRow,mo_ki_n_ValueError,mo_em_t,mo_ki_t_Full,mo_ki_t_NoName,mo_ki_t_NoTask,mo_ki_t_NoDeed,mo_ki_t_NoRow,mo_ki_t_ValueError⟩
 exact ⟨dd.law,λs v=>.of_eq rfl,λbase _ _=>ok_law GG⟩
theorem walk {l:PySem.W.OpenLaw} {q:Program} {loose:List Str} {XP:(Str->Option Value)->Heap->Prop} {YP:World->Heap->Prop} {d:DefRec} {K:Params->PySem.W.Frag} (hn:l.most=some 63) (hdf:d.params.defaults=[])
   (hY:∀ (w:World) (h:Heap),YP w h->(K w.params).In h)
   (F:∀ (w:World) (mg:Str->Option Value) (fa:Addr) (h:Heap),(K w.params).In h->h.Ns mainGlobals mg->mg d.name=some (.ref fa) ->
     ∃ fd:FuncData,(∀ (s:Shared) (u:Value),BindsTo s fd ⟨[u],[]⟩ [("script",u)])/\∀ base:Heap,(K w.params).In base->base.Ns mainGlobals mg->FnOk l.prog w (K w.params) mg base CX0 17 fa fd ["script"] (sp_law (K w.params))) :
   PySem.W.WalkO q loose XP YP l.row.toRowW d [] (λf vs=>PySem.call f vs) :=
 L2.walk_of (n:=63) (k:=17) (x:="script") (CX:=λ_=>CX0) (sp:=λw=>sp_law (K w.params)) hn (by decide) hdf ⟨rfl,by decide,by decide⟩ hY F (λ_ _ a ns hl _ hS=>⟨a,ns,rfl,hS,hl,λ_=>rfl⟩) λ_ _ _ _ _ z=>z
end My
open PySem PySem.W PyProof.Rows
set_option maxRecDepth 100000 in
set_option maxHeartbeats 0 in
theorem PySem.Challenge.cw_askring_k15_refused_then_taken_holds : PySem.Challenge.rw_askring_k15_refused_then_taken.Holds := by
  w_on; o_law; k_head; (case hw => w_witness2)
  k_fill
  refine My.walk (l := PySem.Challenge.rw_askring_k15_refused_then_taken) rfl rfl (fun w h Y => PySem.W.kIn_of Y) ?F
  case F =>
    intro w mg fa h KX G hmg
    refine' My.all_mk KX G hmg ?aC_Ring ?aC_Hand ?aC_Heart ?aC_Store ?a_wall ?l_wall ?c_wall ?k_wall ?a_next_counter ?l_next_counter ?c_next_counter ?k_next_counter ?a_place_of ?l_place_of ?c_place_of ?k_place_of ?a_ahead_by ?l_ahead_by ?c_ahead_by ?k_ahead_by ?a_rounds_with ?l_rounds_with ?c_rounds_with ?k_rounds_with ?a_Ring__init ?i_Ring__init ?l_Ring__init ?c_Ring__init ?k_Ring__init ?a_Ring_filled ?i_Ring_filled ?l_Ring_filled ?c_Ring_filled ?k_Ring_filled ?a_Ring_is_full ?i_Ring_is_full ?l_Ring_is_full ?c_Ring_is_full ?k_Ring_is_full ?a_Ring_place_at ?i_Ring_place_at ?l_Ring_place_at ?c_Ring_place_at ?k_Ring_place_at ?a_Ring_write_further ?i_Ring_write_further ?l_Ring_write_further ?c_Ring_write_further ?k_Ring_write_further ?a_Ring_lay ?i_Ring_lay ?l_Ring_lay ?c_Ring_lay ?k_Ring_lay ?a_Ring_fetch ?i_Ring_fetch ?l_Ring_fetch ?c_Ring_fetch ?k_Ring_fetch ?a_Hand__init ?i_Hand__init ?l_Hand__init ?c_Hand__init ?k_Hand__init ?a_Hand_become ?i_Hand_become ?l_Hand_become ?c_Hand_become ?k_Hand_become ?a_Hand_least_free ?i_Hand_least_free ?l_Hand_least_free ?c_Hand_least_free ?k_Hand_least_free ?a_Hand_check_ask ?i_Hand_check_ask ?l_Hand_check_ask ?c_Hand_check_ask ?k_Hand_check_ask ?a_Hand_ask ?i_Hand_ask ?l_Hand_ask ?c_Hand_ask ?k_Hand_ask ?a_Hand_collect ?i_Hand_collect ?l_Hand_collect ?c_Hand_collect ?k_Hand_collect ?a_Hand_under_way ?i_Hand_under_way ?l_Hand_under_way ?c_Hand_under_way ?k_Hand_under_way ?a_Hand_something_waits ?i_Hand_something_waits ?l_Hand_something_waits ?c_Hand_something_waits ?k_Hand_something_waits ?a_Heart__init ?i_Heart__init ?l_Heart__init ?c_Heart__init ?k_Heart__init ?a_Heart_become ?i_Heart_become ?l_Heart_become ?c_Heart_become ?k_Heart_become ?a_Heart_take ?i_Heart_take ?l_Heart_take ?c_Heart_take ?k_Heart_take ?a_Heart_check_answer ?i_Heart_check_answer ?l_Heart_check_answer ?c_Heart_check_answer ?k_Heart_check_answer ?a_Heart_answer ?i_Heart_answer ?l_Heart_answer ?c_Heart_answer ?k_Heart_answer ?a_Heart_tasks ?i_Heart_tasks ?l_Heart_tasks ?c_Heart_tasks ?k_Heart_tasks ?a_Heart_something_waits ?i_Heart_something_waits ?l_Heart_something_waits ?c_Heart_something_waits ?k_Heart_something_waits ?a_Store__init ?i_Store__init ?l_Store__init ?c_Store__init ?k_Store__init ?a_Store_become ?i_Store_become ?l_Store_become ?c_Store_become ?k_Store_become ?a_Store_write ?i_Store_write ?l_Store_write ?c_Store_write ?k_Store_write ?a_Store_drain ?i_Store_drain ?l_Store_drain ?c_Store_drain ?k_Store_drain ?a_Store_fence ?i_Store_fence ?l_Store_fence ?c_Store_fence ?k_Store_fence ?a_Store_read ?i_Store_read ?l_Store_read ?c_Store_read ?k_Store_read ?a_Store_memory ?i_Store_memory ?l_Store_memory ?c_Store_memory ?k_Store_memory ?a_Store_waits ?i_Store_waits ?l_Store_waits ?c_Store_waits ?k_Store_waits ?a_Store_cells ?i_Store_cells ?l_Store_cells ?c_Store_cells ?k_Store_cells ?a_law_well ?l_law_well ?c_law_well ?k_law_well ?a_law_draw ?l_law_draw ?c_law_draw ?k_law_draw ?a_law_same ?l_law_same ?c_law_same ?k_law_same ?a_law_worth ?l_law_worth ?c_law_worth ?k_law_worth ?a_law_size ?l_law_size ?c_law_size ?k_law_size ?a_law_names ?l_law_names ?c_law_names ?k_law_names ?a_law_kind ?l_law_kind ?c_law_kind ?k_law_kind ?a_law_asked ?l_law_asked ?c_law_asked ?k_law_asked ?a_law_answered ?l_law_answered ?c_law_answered ?k_law_answered ?a_law_seen ?l_law_seen ?c_law_seen ?k_law_seen ?a_law_refused ?l_law_refused ?c_law_refused ?k_law_refused ?a_law_all_asked ?l_law_all_asked ?c_law_all_asked ?k_law_all_asked ?a_law_asked_again ?l_law_asked_again ?c_law_asked_again ?k_law_asked_again ?a_law_answered_all ?l_law_answered_all ?c_law_answered_all ?k_law_answered_all ?a_law ?l_law ?c_law ?k_law ?pg_Ring ?hd_Ring ?po_Ring ?sa_Ring ?mk_Ring ?kc_Ring ?na_Ring_shelf ?na_Ring_side ?na_Ring_word ?na_Ring_laid ?na_Ring_fetched ?na_Ring_size ?na_Ring_rounds ?na_Ring_counter_first ?pg_Hand ?hd_Hand ?po_Hand ?sa_Hand ?mk_Hand ?kc_Hand ?na_Hand_asks ?na_Hand_answers ?na_Hand_names ?na_Hand_going ?pg_Heart ?hd_Heart ?po_Heart ?sa_Heart ?mk_Heart ?kc_Heart ?na_Heart_asks ?na_Heart_answers ?na_Heart_doing ?pg_Store ?hd_Store ?po_Store ?sa_Store ?mk_Store ?kc_Store ?na_Store_held ?na_Store_rows ?n_ValueError ?n_bool ?n_int ?n_isinstance ?n_len ?n_list ?n_min ?n_range ?n_reversed ?n_sorted ?n_str ?n_tuple ?n_zip ?aX_RingError ?aX_Full ?aX_NoName ?aX_NoTask ?aX_NoDeed ?aX_NoRow ?aT_ASKS ?kT_ASKS ?aT_ANSWERS ?kT_ANSWERS ?xc_Full ?xc_NoName ?xc_NoTask ?xk_ga_Full ?xk_gt_Full ?xk_cl_Full ?xk_ob_Full ?xk_be_Full ?xk_is_Full ?xk_ga_NoName ?xk_gt_NoName ?xk_cl_NoName ?xk_ob_NoName ?xk_be_NoName ?xk_is_NoName ?xk_ga_NoTask ?xk_gt_NoTask ?xk_cl_NoTask ?xk_ob_NoTask ?xk_be_NoTask ?xk_is_NoTask ?mo_em_f ?mo_ki_f_Full ?mo_ki_f_NoName ?mo_ki_f_NoTask ?mo_ki_f_NoDeed ?mo_ki_f_NoRow ?mo_ki_f_ValueError ?mo_em_n ?mo_ki_n_Full ?mo_ki_n_NoName ?mo_ki_n_NoTask ?mo_ki_n_NoDeed ?mo_ki_n_NoRow ?mo_ki_n_ValueError ?mo_em_t ?mo_ki_t_Full ?mo_ki_t_NoName ?mo_ki_t_NoTask ?mo_ki_t_NoDeed ?mo_ki_t_NoRow ?mo_ki_t_ValueError
    (case aC_Ring => k_is)
    (case aC_Hand => k_is)
    (case aC_Heart => k_is)
    (case aC_Store => k_is)
    (case a_wall => k_is)
    (case l_wall => k_is)
    (case c_wall => k_is)
    (case k_wall => k_is)
    (case a_next_counter => k_is)
    (case l_next_counter => k_is)
    (case c_next_counter => k_is)
    (case k_next_counter => k_is)
    (case a_place_of => k_is)
    (case l_place_of => k_is)
    (case c_place_of => k_is)
    (case k_place_of => k_is)
    (case a_ahead_by => k_is)
    (case l_ahead_by => k_is)
    (case c_ahead_by => k_is)
    (case k_ahead_by => k_is)
    (case a_rounds_with => k_is)
    (case l_rounds_with => k_is)
    (case c_rounds_with => k_is)
    (case k_rounds_with => k_is)
    (case a_Ring__init => k_is)
    (case i_Ring__init => k_is)
    (case l_Ring__init => k_is)
    (case c_Ring__init => k_is)
    (case k_Ring__init => k_is)
    (case a_Ring_filled => k_is)
    (case i_Ring_filled => k_is)
    (case l_Ring_filled => k_is)
    (case c_Ring_filled => k_is)
    (case k_Ring_filled => k_is)
    (case a_Ring_is_full => k_is)
    (case i_Ring_is_full => k_is)
    (case l_Ring_is_full => k_is)
    (case c_Ring_is_full => k_is)
    (case k_Ring_is_full => k_is)
    (case a_Ring_place_at => k_is)
    (case i_Ring_place_at => k_is)
    (case l_Ring_place_at => k_is)
    (case c_Ring_place_at => k_is)
    (case k_Ring_place_at => k_is)
    (case a_Ring_write_further => k_is)
    (case i_Ring_write_further => k_is)
    (case l_Ring_write_further => k_is)
    (case c_Ring_write_further => k_is)
    (case k_Ring_write_further => k_is)
    (case a_Ring_lay => k_is)
    (case i_Ring_lay => k_is)
    (case l_Ring_lay => k_is)
    (case c_Ring_lay => k_is)
    (case k_Ring_lay => k_is)
    (case a_Ring_fetch => k_is)
    (case i_Ring_fetch => k_is)
    (case l_Ring_fetch => k_is)
    (case c_Ring_fetch => k_is)
    (case k_Ring_fetch => k_is)
    (case a_Hand__init => k_is)
    (case i_Hand__init => k_is)
    (case l_Hand__init => k_is)
    (case c_Hand__init => k_is)
    (case k_Hand__init => k_is)
    (case a_Hand_become => k_is)
    (case i_Hand_become => k_is)
    (case l_Hand_become => k_is)
    (case c_Hand_become => k_is)
    (case k_Hand_become => k_is)
    (case a_Hand_least_free => k_is)
    (case i_Hand_least_free => k_is)
    (case l_Hand_least_free => k_is)
    (case c_Hand_least_free => k_is)
    (case k_Hand_least_free => k_is)
    (case a_Hand_check_ask => k_is)
    (case i_Hand_check_ask => k_is)
    (case l_Hand_check_ask => k_is)
    (case c_Hand_check_ask => k_is)
    (case k_Hand_check_ask => k_is)
    (case a_Hand_ask => k_is)
    (case i_Hand_ask => k_is)
    (case l_Hand_ask => k_is)
    (case c_Hand_ask => k_is)
    (case k_Hand_ask => k_is)
    (case a_Hand_collect => k_is)
    (case i_Hand_collect => k_is)
    (case l_Hand_collect => k_is)
    (case c_Hand_collect => k_is)
    (case k_Hand_collect => k_is)
    (case a_Hand_under_way => k_is)
    (case i_Hand_under_way => k_is)
    (case l_Hand_under_way => k_is)
    (case c_Hand_under_way => k_is)
    (case k_Hand_under_way => k_is)
    (case a_Hand_something_waits => k_is)
    (case i_Hand_something_waits => k_is)
    (case l_Hand_something_waits => k_is)
    (case c_Hand_something_waits => k_is)
    (case k_Hand_something_waits => k_is)
    (case a_Heart__init => k_is)
    (case i_Heart__init => k_is)
    (case l_Heart__init => k_is)
    (case c_Heart__init => k_is)
    (case k_Heart__init => k_is)
    (case a_Heart_become => k_is)
    (case i_Heart_become => k_is)
    (case l_Heart_become => k_is)
    (case c_Heart_become => k_is)
    (case k_Heart_become => k_is)
    (case a_Heart_take => k_is)
    (case i_Heart_take => k_is)
    (case l_Heart_take => k_is)
    (case c_Heart_take => k_is)
    (case k_Heart_take => k_is)
    (case a_Heart_check_answer => k_is)
    (case i_Heart_check_answer => k_is)
    (case l_Heart_check_answer => k_is)
    (case c_Heart_check_answer => k_is)
    (case k_Heart_check_answer => k_is)
    (case a_Heart_answer => k_is)
    (case i_Heart_answer => k_is)
    (case l_Heart_answer => k_is)
    (case c_Heart_answer => k_is)
    (case k_Heart_answer => k_is)
    (case a_Heart_tasks => k_is)
    (case i_Heart_tasks => k_is)
    (case l_Heart_tasks => k_is)
    (case c_Heart_tasks => k_is)
    (case k_Heart_tasks => k_is)
    (case a_Heart_something_waits => k_is)
    (case i_Heart_something_waits => k_is)
    (case l_Heart_something_waits => k_is)
    (case c_Heart_something_waits => k_is)
    (case k_Heart_something_waits => k_is)
    (case a_Store__init => k_is)
    (case i_Store__init => k_is)
    (case l_Store__init => k_is)
    (case c_Store__init => k_is)
    (case k_Store__init => k_is)
    (case a_Store_become => k_is)
    (case i_Store_become => k_is)
    (case l_Store_become => k_is)
    (case c_Store_become => k_is)
    (case k_Store_become => k_is)
    (case a_Store_write => k_is)
    (case i_Store_write => k_is)
    (case l_Store_write => k_is)
    (case c_Store_write => k_is)
    (case k_Store_write => k_is)
    (case a_Store_drain => k_is)
    (case i_Store_drain => k_is)
    (case l_Store_drain => k_is)
    (case c_Store_drain => k_is)
    (case k_Store_drain => k_is)
    (case a_Store_fence => k_is)
    (case i_Store_fence => k_is)
    (case l_Store_fence => k_is)
    (case c_Store_fence => k_is)
    (case k_Store_fence => k_is)
    (case a_Store_read => k_is)
    (case i_Store_read => k_is)
    (case l_Store_read => k_is)
    (case c_Store_read => k_is)
    (case k_Store_read => k_is)
    (case a_Store_memory => k_is)
    (case i_Store_memory => k_is)
    (case l_Store_memory => k_is)
    (case c_Store_memory => k_is)
    (case k_Store_memory => k_is)
    (case a_Store_waits => k_is)
    (case i_Store_waits => k_is)
    (case l_Store_waits => k_is)
    (case c_Store_waits => k_is)
    (case k_Store_waits => k_is)
    (case a_Store_cells => k_is)
    (case i_Store_cells => k_is)
    (case l_Store_cells => k_is)
    (case c_Store_cells => k_is)
    (case k_Store_cells => k_is)
    (case a_law_well => k_is)
    (case l_law_well => k_is)
    (case c_law_well => k_is)
    (case k_law_well => k_is)
    (case a_law_draw => k_is)
    (case l_law_draw => k_is)
    (case c_law_draw => k_is)
    (case k_law_draw => k_is)
    (case a_law_same => k_is)
    (case l_law_same => k_is)
    (case c_law_same => k_is)
    (case k_law_same => k_is)
    (case a_law_worth => k_is)
    (case l_law_worth => k_is)
    (case c_law_worth => k_is)
    (case k_law_worth => k_is)
    (case a_law_size => k_is)
    (case l_law_size => k_is)
    (case c_law_size => k_is)
    (case k_law_size => k_is)
    (case a_law_names => k_is)
    (case l_law_names => k_is)
    (case c_law_names => k_is)
    (case k_law_names => k_is)
    (case a_law_kind => k_is)
    (case l_law_kind => k_is)
    (case c_law_kind => k_is)
    (case k_law_kind => k_is)
    (case a_law_asked => k_is)
    (case l_law_asked => k_is)
    (case c_law_asked => k_is)
    (case k_law_asked => k_is)
    (case a_law_answered => k_is)
    (case l_law_answered => k_is)
    (case c_law_answered => k_is)
    (case k_law_answered => k_is)
    (case a_law_seen => k_is)
    (case l_law_seen => k_is)
    (case c_law_seen => k_is)
    (case k_law_seen => k_is)
    (case a_law_refused => k_is)
    (case l_law_refused => k_is)
    (case c_law_refused => k_is)
    (case k_law_refused => k_is)
    (case a_law_all_asked => k_is)
    (case l_law_all_asked => k_is)
    (case c_law_all_asked => k_is)
    (case k_law_all_asked => k_is)
    (case a_law_asked_again => k_is)
    (case l_law_asked_again => k_is)
    (case c_law_asked_again => k_is)
    (case k_law_asked_again => k_is)
    (case a_law_answered_all => k_is)
    (case l_law_answered_all => k_is)
    (case c_law_answered_all => k_is)
    (case k_law_answered_all => k_is)
    (case a_law => k_is)
    (case l_law => k_is)
    (case c_law => k_is)
    (case k_law => k_is)
    (case pg_Ring => k_is)
    (case hd_Ring => k_is)
    (case po_Ring => k_is)
    (case sa_Ring => k_is)
    (case mk_Ring => k_is)
    (case kc_Ring => k_is)
    (case na_Ring_shelf => k_is)
    (case na_Ring_side => k_is)
    (case na_Ring_word => k_is)
    (case na_Ring_laid => k_is)
    (case na_Ring_fetched => k_is)
    (case na_Ring_size => k_is)
    (case na_Ring_rounds => k_is)
    (case na_Ring_counter_first => k_is)
    (case pg_Hand => k_is)
    (case hd_Hand => k_is)
    (case po_Hand => k_is)
    (case sa_Hand => k_is)
    (case mk_Hand => k_is)
    (case kc_Hand => k_is)
    (case na_Hand_asks => k_is)
    (case na_Hand_answers => k_is)
    (case na_Hand_names => k_is)
    (case na_Hand_going => k_is)
    (case pg_Heart => k_is)
    (case hd_Heart => k_is)
    (case po_Heart => k_is)
    (case sa_Heart => k_is)
    (case mk_Heart => k_is)
    (case kc_Heart => k_is)
    (case na_Heart_asks => k_is)
    (case na_Heart_answers => k_is)
    (case na_Heart_doing => k_is)
    (case pg_Store => k_is)
    (case hd_Store => k_is)
    (case po_Store => k_is)
    (case sa_Store => k_is)
    (case mk_Store => k_is)
    (case kc_Store => k_is)
    (case na_Store_held => k_is)
    (case na_Store_rows => k_is)
    (case n_ValueError => k_is)
    (case n_bool => k_is)
    (case n_int => k_is)
    (case n_isinstance => k_is)
    (case n_len => k_is)
    (case n_list => k_is)
    (case n_min => k_is)
    (case n_range => k_is)
    (case n_reversed => k_is)
    (case n_sorted => k_is)
    (case n_str => k_is)
    (case n_tuple => k_is)
    (case n_zip => k_is)
    (case aX_RingError => k_is)
    (case aX_Full => k_is)
    (case aX_NoName => k_is)
    (case aX_NoTask => k_is)
    (case aX_NoDeed => k_is)
    (case aX_NoRow => k_is)
    (case aT_ASKS => k_is)
    (case kT_ASKS => k_is)
    (case aT_ANSWERS => k_is)
    (case kT_ANSWERS => k_is)
    (case xc_Full => k_exc)
    (case xc_NoName => k_exc)
    (case xc_NoTask => k_exc)
    (case xk_ga_Full => k_is)
    (case xk_gt_Full => k_is)
    (case xk_cl_Full => k_is)
    (case xk_ob_Full => k_is)
    (case xk_be_Full => k_is)
    (case xk_is_Full => k_is)
    (case xk_ga_NoName => k_is)
    (case xk_gt_NoName => k_is)
    (case xk_cl_NoName => k_is)
    (case xk_ob_NoName => k_is)
    (case xk_be_NoName => k_is)
    (case xk_is_NoName => k_is)
    (case xk_ga_NoTask => k_is)
    (case xk_gt_NoTask => k_is)
    (case xk_cl_NoTask => k_is)
    (case xk_ob_NoTask => k_is)
    (case xk_be_NoTask => k_is)
    (case xk_is_NoTask => k_is)
    (case mo_em_f => kts_exm)
    (case mo_ki_f_Full => kit_is)
    (case mo_ki_f_NoName => kit_is)
    (case mo_ki_f_NoTask => kit_is)
    (case mo_ki_f_NoDeed => kit_is)
    (case mo_ki_f_NoRow => kit_is)
    (case mo_ki_f_ValueError => kit_is)
    (case mo_em_n => kts_exm)
    (case mo_ki_n_Full => kit_is)
    (case mo_ki_n_NoName => kit_is)
    (case mo_ki_n_NoTask => kit_is)
    (case mo_ki_n_NoDeed => kit_is)
    (case mo_ki_n_NoRow => kit_is)
    (case mo_ki_n_ValueError => kit_is)
    (case mo_em_t => kts_exm)
    (case mo_ki_t_Full => kit_is)
    (case mo_ki_t_NoName => kit_is)
    (case mo_ki_t_NoTask => kit_is)
    (case mo_ki_t_NoDeed => kit_is)
    (case mo_ki_t_NoRow => kit_is)
    (case mo_ki_t_ValueError => kit_is)
#print axioms PySem.Challenge.cw_askring_k15_refused_then_taken_holds

