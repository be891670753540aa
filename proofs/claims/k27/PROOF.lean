import PyProof.Rows.All
import Wide.All
import OpenK.AllK
import Wide.FinOn
import Lean
import PyProof.EqAt
import PyProof.EqKinds
import PyProof.TupleCall
import PyProof.NeData
import PyProof.DictRoadsH
import Wide.Seal
import PyProof.CompMap
import PyProof.DictIter
import PyProof.DictWalks
import PyProof.P3In
import OpenK.KOwn
import KE.KTryMore
import PyProof.RulesAs
import PyProof.ExcArgs
import PyProof.NsDelKeeps
import KE.KIsAll
import OpenK.KDescr
import PyProof.CompUse
import PyProof.ZipIter
import PyProof.TupleIter
import KE.KRevSl
import PyProof.Rows.SortWalk
import PyProof.MeetsSeq
import KE.KDictSum
import PyProof.ListRange
import KE.KSortKey
import PyProof.Rows.SortStr
import PyProof.Rows.CallKwBuiltin
import KE.KTab
import PyProof.ConsumeWalk
import PyProof.Comp
import PyProof.ForAny
import PyProof.Rows.StrJoin2
import PyProof.CallStr
import PySem.Challenge.RW_askring_k27_what_happened
def PySem.W.Fast.tw10104669690905277868 : Nat := 0
def PySem.W.Fast.tw11014980067156761949 : Nat := 0
def PySem.W.Fast.tw11134440755322491267 : Nat := 0
def PySem.W.Fast.tw1129984239809629224 : Nat := 0
def PySem.W.Fast.tw11818703014216363101 : Nat := 0
def PySem.W.Fast.tw12992814920710276045 : Nat := 0
def PySem.W.Fast.tw13299278455632599530 : Nat := 0
def PySem.W.Fast.tw13560356507123223215 : Nat := 0
def PySem.W.Fast.tw13574657527266569343 : Nat := 0
def PySem.W.Fast.tw13728549457595955416 : Nat := 0
def PySem.W.Fast.tw14816455148829164824 : Nat := 0
def PySem.W.Fast.tw15097587796667676939 : Nat := 0
def PySem.W.Fast.tw1514903784997320963 : Nat := 0
def PySem.W.Fast.tw15200518238065271095 : Nat := 0
def PySem.W.Fast.tw15483261534165305998 : Nat := 0
def PySem.W.Fast.tw15570919517179286125 : Nat := 0
def PySem.W.Fast.tw15821992098761840367 : Nat := 0
def PySem.W.Fast.tw16227540321074696446 : Nat := 0
def PySem.W.Fast.tw16440245403432912305 : Nat := 0
def PySem.W.Fast.tw17938455200019145500 : Nat := 0
def PySem.W.Fast.tw18196033686879961562 : Nat := 0
def PySem.W.Fast.tw1918690769627902876 : Nat := 0
def PySem.W.Fast.tw2405417952817988389 : Nat := 0
def PySem.W.Fast.tw3849164158318287953 : Nat := 0
def PySem.W.Fast.tw3993741324753149269 : Nat := 0
def PySem.W.Fast.tw4114365375802055030 : Nat := 0
def PySem.W.Fast.tw4285756011513510858 : Nat := 0
def PySem.W.Fast.tw4311961452957053921 : Nat := 0
def PySem.W.Fast.tw4716276189719145537 : Nat := 0
def PySem.W.Fast.tw5279034989367747192 : Nat := 0
def PySem.W.Fast.tw5498326651954467212 : Nat := 0
def PySem.W.Fast.tw5501955051243046879 : Nat := 0
def PySem.W.Fast.tw5895699460904065994 : Nat := 0
def PySem.W.Fast.tw6284631339887716208 : Nat := 0
def PySem.W.Fast.tw6557369498839485967 : Nat := 0
def PySem.W.Fast.tw6611413044271209773 : Nat := 0
def PySem.W.Fast.tw7181438576296297103 : Nat := 0
def PySem.W.Fast.tw8549472230262705826 : Nat := 0
def PySem.W.Fast.tw9368068418007309951 : Nat := 0
def PySem.W.Fast.tw9617908656301769945 : Nat := 0
def PySem.W.Fast.tw9843163650014107275 : Nat := 0
set_option Elab.async false
set_option linter.all false
set_option maxRecDepth 100000
namespace L2
open PySem PySem.Spec PyProof.Rows

abbrev Key:=Sum Int Str
def keyIs:Key->Value->Bool
 | .inl k,v=>Value.isInt k v
 | .inr x,v=>Value.isStrOf x v
def keyH (w:World):Key->Int
 | .inl k=>hashInt k
 | .inr x=>hashStr w x
theorem keyIs_shape:∀ {k:Key} {v:Value},keyIs k v=true->(∃ i t,k=Sum.inl i/\v=Value.int i t)\/(∃ x t,k=Sum.inr x/\v=Value.str x t)
 | .inl i,v,h=>by
   obtain ⟨t,e⟩:=Value.isInt_shape (k:=i) (v:=v) h
   exact .inl ⟨i,t,rfl,e⟩
 | .inr x,v,h=>by
   obtain ⟨t,e⟩:=Value.isStrOf_shape (x:=x) (v:=v) h
   exact .inr ⟨x,t,rfl,e⟩
theorem keyIs_int (i:Int) (t:Tok):keyIs (.inl i) (.int i t)=true:=by simp [keyIs,Value.isInt]
theorem keyIs_str (x:Str) (t:Tok):keyIs (.inr x) (.str x t)=true:=by simp [keyIs,Value.isStrOf]
theorem key_ll (a b:Int):decide ((Sum.inl a:Key)=Sum.inl b)=(a == b):=by
 by_cases e:a=b
 · subst e;simp
 · have h:¬ (Sum.inl a:Key)=Sum.inl b:=λq=>e (Sum.inl.inj q)
   rw [decide_eq_false h]
   exact (beq_eq_false_iff_ne.mpr e).symm
theorem key_rr (a b:Str):decide ((Sum.inr a:Key)=Sum.inr b)=decide (a=b):=by
 by_cases e:a=b
 · subst e;simp
 · have h:¬ (Sum.inr a:Key)=Sum.inr b:=λq=>e (Sum.inr.inj q)
   rw [decide_eq_false h,decide_eq_false e]
theorem key_lr (a:Int) (b:Str):decide ((Sum.inl a:Key)=Sum.inr b)=false:=decide_eq_false (λq=>nomatch q)
theorem key_rl (a:Str) (b:Int):decide ((Sum.inr a:Key)=Sum.inl b)=false:=decide_eq_false (λq=>nomatch q)

def mixKind (prog:Program) (w:World):PySem.KeyKind prog w Key where
 is:=keyIs
 hash:=keyH w
 inj:=λv a b ha hb=>by
   rcases keyIs_shape ha with ⟨i,t,rfl,rfl⟩ | ⟨x,t,rfl,rfl⟩
   · rcases keyIs_shape hb with ⟨j,u,rfl,e⟩ | ⟨y,u,rfl,e⟩
     · injection e with e1 _;rw [e1]
     · exact nomatch e
   · rcases keyIs_shape hb with ⟨j,u,rfl,e⟩ | ⟨y,u,rfl,e⟩
     · exact nomatch e
     · injection e with e1 _;rw [e1]
 byValue:=λk v h=>by
   rcases keyIs_shape h with ⟨i,t,rfl,rfl⟩ | ⟨x,t,rfl,rfl⟩<;>rfl
 pyHash:=λhv h=>by
   rcases keyIs_shape hv with ⟨i,t,rfl,rfl⟩ | ⟨x,t,rfl,rfl⟩
   · exact wpAny_pyHash_int h
   · exact wpAny_pyHash_str h
 eqBool:=λhu hv h=>by
   rcases keyIs_shape hu with ⟨i,t,rfl,rfl⟩ | ⟨x,t,rfl,rfl⟩
   · rcases keyIs_shape hv with ⟨j,u,rfl,rfl⟩ | ⟨y,u,rfl,rfl⟩
     · rw [key_ll] at h;exact wpAny_eqBool_int h
     · rw [key_lr] at h;exact SeqAt.EqAt.int_str i t y u _ _ _ _ h
   · rcases keyIs_shape hv with ⟨j,u,rfl,rfl⟩ | ⟨y,u,rfl,rfl⟩
     · rw [key_rl] at h;exact SeqAt.EqAt.str_int x t j u _ _ _ _ h
     · rw [key_rr] at h;exact wpAny_eqBool_str h
 «strs»:=λk x t v h=>by
   rcases keyIs_shape h with ⟨i,u,rfl,e⟩ | ⟨y,u,rfl,e⟩
   · exact nomatch e
   · injection e with e1 _
     subst e1
     cases v<;>rfl

theorem mixKind_int (prog:Program) (w:World) (i:Int) (t:Tok):(mixKind prog w).is (.inl i) (.int i t)=true:=keyIs_int i t
theorem mixKind_str (prog:Program) (w:World) (x:Str) (t:Tok):(mixKind prog w).is (.inr x) (.str x t)=true:=keyIs_str x t
end L2

namespace L2
open PySem PySem.Spec PyProof.Rows

inductive V where
 | non | bl (b:Bool) | int (i:Int) | str (x:Str) | byt (b:Array UInt8) | flt (b:UInt64) | ref (a:Addr) | ty (n:String)
 deriving DecidableEq

def RelV:V->Value->Prop
 | .non,u=>u=Value.none
 | .bl b,u=>u=Value.bool b
 | .int i,u=>∃ t,u=Value.int i t
 | .str x,u=>∃ t,u=Value.str x t
 | .byt b,u=>∃ t,u=Value.bytes b t
 | .flt b,u=>∃ t,u=Value.float b t
 | .ref a,u=>u=Value.ref a
 | .ty n,u=>u=Value.type n

abbrev Vals:List V->List Value->Prop:=Paired RelV
theorem Vals.length {xs:List V} {us:List Value} (r:Vals xs us):xs.length=us.length:=Paired.length r
theorem Vals.get:∀ {xs:List V} {us:List Value} {i:Nat} {x:V},Vals xs us->xs[i]?=some x->∃ u,us[i]?=some u/\RelV x u
 | _,_,_,_,.nil,e=>by simp at e
 | _,_,0,_,.cons r _,e=>by simp at e;subst e;exact ⟨_,rfl,r⟩
 | _,_,i+1,x,.cons _ t,e=>by
   obtain ⟨u,h1,h2⟩:=Vals.get (i:=i) (x:=x) t (by simpa using e)
   exact ⟨u,by simpa using h1,h2⟩
theorem Vals.set {x:V} {u:Value} (r:RelV x u):∀ {xs:List V} {us:List Value} (i:Nat),Vals xs us->Vals (xs.set i x) (us.set i u)
 | _,_,_,.nil=>.nil
 | _,_,0,.cons _ t=>.cons r t
 | _,_,i+1,.cons q t=>.cons q (Vals.set r i t)
theorem Vals.append:∀ {xs ys:List V} {us ws:List Value},Vals xs us->Vals ys ws->Vals (xs++ys) (us++ws)
 | _,_,_,_,.nil,s=>s
 | _,_,_,_,.cons r t,s=>.cons r (Vals.append t s)
theorem Vals.take:∀ {xs:List V} {us:List Value} (n:Nat),Vals xs us->Vals (xs.take n) (us.take n)
 | _,_,0,_=>.nil
 | _,_,_+1,.nil=>.nil
 | _,_,n+1,.cons r t=>.cons r (Vals.take n t)
theorem Vals.drop:∀ {xs:List V} {us:List Value} (n:Nat),Vals xs us->Vals (xs.drop n) (us.drop n)
 | _,_,0,r=>r
 | _,_,_+1,.nil=>.nil
 | _,_,n+1,.cons _ t=>Vals.drop n t
theorem Vals.none_of:∀ {xs:List V} {us:List Value} {i:Nat},Vals xs us->xs[i]?=none->us[i]?=none:=λ{xs us i} r e=>by
 have h1:=r.length
 have h2:xs.length <= i:=List.getElem?_eq_none_iff.mp e
 exact List.getElem?_eq_none_iff.mpr (by omega)

def RelO:Option V->Option Value->Prop
 | some v,some u=>RelV v u
 | none,none=>True
 | _,_=>False
def KV {κ:Type}:List (κ × V)->List (κ × Value)->Prop:=Paired λ(p:κ × V) (q:κ × Value)=>p.1=q.1/\RelV p.2 q.2

def kV:Key->V
 | .inl i=>.int i
 | .inr x=>.str x

inductive HO where
 /-- a list -/
 | lst (xs:List V)
 /-- a tuple (never changes) -/
 | tup (xs:List V)
 /-- a dict whose keys are ints and texts;one whose keys are tuples of ints and texts (the empty one is both) -/
 | dK (kvs:List (Key × V)) | dT (kvs:List (List Key × V))
 /-- a set of ints: its members,its size -/
 | set (S:Int->Bool) (n:Nat)
 /-- an instance of the class at C,its dict at dx,its attributes -/
 | ins (C dx:Addr) (fs:List (Str × V))
 /-- the dict of the instance at x -/
 | own (x:Addr)
 /-- the dict of an exception -/
 | xd (fs:List (Str × V))
 /-- a bound method,f of x -/
 | met (f x:Addr)
 /-- a range object lo,lo+1,.. below hi -/
 | rng (lo hi:Int)
 /-- a thing that is known to the object (the script;a dict while a loop walks it): read,never written while it is so -/
 | frz (o:Obj) (u:HO)
 /-- a code object's table -/
 | tbl (ps:Array Value)
 /-- any other thing,by what is true of its one object (a def of one's own: SetO a S n:=HO.ext λh=>..) -/
 | ext (φ:Heap->Prop)

abbrev Hp:=Addr->Option HO
def upd (H:Hp) (a:Addr) (o:HO):Hp:=λb=>if b=a then some o else H b
theorem upd_same {H:Hp} {a:Addr} {o:HO}:upd H a o a=some o:=by unfold upd;rw [if_pos rfl]
theorem upd_ne {H:Hp} {a b:Addr} {o:HO} (h:b≠a):upd H a o b=H b:=by unfold upd;rw [if_neg h]
theorem upd_upd {H:Hp} {a:Addr} {o u:HO}:upd (upd H a o) a u=upd H a u:=by
 funext b;unfold upd;split<;>rfl
theorem ne_of {H:Hp} {a b:Addr} {o u:HO} (h:H a=some o) (h':H b=some u) (d:o≠u):a≠b:=by
 intro e;subst e;rw [h] at h';exact d (Option.some.inj h')
theorem ne_of_none {H:Hp} {a b:Addr} {o:HO} (h:H a=some o) (h':H b=none):a≠b:=by
 intro e;subst e;rw [h] at h';cases h'

section
variable (P:Program) (w:World)
def ObjOk (H:Hp) (h:Heap) (a:Addr):HO->Prop
 | .lst xs=>xs.length <= sizeLine/\∃ (its:List Value) (n:Nat),Vals xs its/\h.get? a=some { cls:=.type "list",data:=.seq its.toArray n }
 | .tup xs=>xs.length <= sizeLine/\∃ its:List Value,Vals xs its/\IsTup h a its.toArray
 | .dK kvs=>kvs.length <= sizeLine/\(a == sysModules)=false/\∃ vs,KV kvs vs/\h.DictOf (mixKind P w) a vs
 | .dT kvs=>kvs.length <= sizeLine/\(a == sysModules)=false/\∃ xs:List (List Key × Addr × Value),
     Paired (λ(p:List Key × V) (q:List Key × Addr × Value)=>p.1=q.1/\H q.2.1=some (.tup (p.1.map kV))/\RelV p.2 q.2.2) kvs xs /\
     ∃ o es ep,h.get? a=some o/\o.ExactDict/\o.data=.dict es ep/\es.toList=xs.map (entryOfKey (tupleKind (mixKind P w)))/\(xs.map (·.1)).Nodup
 | .set S n=>h.SetOf (intKind P w) a S n
 | .ins C dx fs=>H dx=some (.own a)/\fs.length <= 1000/\dx≠a/\h.get? a=some (PySem.W.instObj C dx) /\
     ∃ mA,h.Ns1 dx mA/\(∀ f,RelO (fs.lookup f) (mA f))/\PySem.Within mA (fs.map (·.1))
 | .own _=>∃ o,h.get? a=some o
 | .xd fs=>∃ mA,h.Ns1 a mA/\∀ f,RelO (fs.lookup f) (mA f)
 | .rng lo hi=>∃ t u v,h.get? a=some { cls:=.type "range",data:=.fields #[.int lo t,.int hi u,.int 1 v] }
 | .frz o u=>h.get? a=some o/\ObjOk H h a u
 | .tbl ps=>h.get? a=some { cls:=.none,data:=.fields ps }
 | .met f x=>h.get? a=some (PySem.W.methodObj (.ref f) (.ref x))
 | .ext φ=>φ h/\(∃ o,h.get? a=some o)/\∀ h1 h2:Heap,φ h1->(∀ o,h1.get? a=some o->h2.get? a=some o)->φ h2
def HOk (H:Hp) (h:Heap):Prop:=∀ a o,H a=some o->ObjOk P w H h a o
end

section
variable {P:Program} {w:World} {H H':Hp} {h h':Heap} {a:Addr} {o:HO}
theorem ObjOk.lt (x:ObjOk P w H h a o):a < h.objs.size:=by
 cases o with
 | lst xs=>obtain ⟨_,_,_,_,e⟩:=x;exact Heap.lt_size e
 | tup xs=>obtain ⟨_,_,_,p⟩:=x;exact p.lt
 | dK kvs=>obtain ⟨_,_,_,_,o,_,_,e,_⟩:=x;exact Heap.lt_size e
 | dT kvs=>obtain ⟨_,_,_,_,o,_,_,e,_⟩:=x;exact Heap.lt_size e
 | set S n=>obtain ⟨o,_,_,_,e,_⟩:=x;exact Heap.lt_size e
 | ins C dx fs=>obtain ⟨_,_,_,e,_⟩:=x;exact Heap.lt_size e
 | own y=>obtain ⟨_,e⟩:=x;exact Heap.lt_size e
 | xd fs=>obtain ⟨_,⟨_,_,_,e,_⟩,_⟩:=x;exact Heap.lt_size e
 | rng lo hi=>obtain ⟨_,_,_,e⟩:=x;exact Heap.lt_size e
 | frz ob u=>obtain ⟨e,_⟩:=x;exact Heap.lt_size e
 | tbl ps=>exact Heap.lt_size (show h.get? a=some _ from x)
 | met f y=>exact Heap.lt_size (show h.get? a=some _ from x)
 | ext φ=>obtain ⟨_,⟨_,e⟩,_⟩:=x;exact Heap.lt_size e
theorem Paired.mapP {α β:Type} {F G:α->β->Prop}:∀ {l₁:List α} {l₂:List β},Paired F l₁ l₂->(∀ a b,F a b->G a b)->Paired G l₁ l₂
 | _,_,.nil,_=>.nil
 | _,_,.cons r t,f=>.cons (f _ _ r) (Paired.mapP t f)
theorem ObjOk.stay (x:ObjOk P w H h a o) (k:∀ b u,(b=a\/H b=some (.own a))->h.get? b=some u->h'.get? b=some u)
   (ho:∀ b,H b=some (.own a)->H' b=some (.own a)) (ht:∀ b xs,H b=some (.tup xs)->H' b=some (.tup xs)):ObjOk P w H' h' a o:=by
 induction o with
 | lst xs=>obtain ⟨z,its,n,r,e⟩:=x;exact ⟨z,its,n,r,k _ _ (.inl rfl) e⟩
 | tup xs=>obtain ⟨z,its,r,ob,e,c⟩:=x;exact ⟨z,its,r,ob,k _ _ (.inl rfl) e,c⟩
 | dK kvs=>obtain ⟨z,y,vs,r,ob,es,ep,e,c⟩:=x;exact ⟨z,y,vs,r,ob,es,ep,k _ _ (.inl rfl) e,c⟩
 | dT kvs =>
   obtain ⟨z,y,xs,r,ob,es,ep,e,c⟩:=x
   exact ⟨z,y,xs,Paired.mapP r λp q z=>⟨z.1,ht _ _ z.2.1,z.2.2⟩,ob,es,ep,k _ _ (.inl rfl) e,c⟩
 | set S n=>obtain ⟨ob,es,ep,t,e,c⟩:=x;exact ⟨ob,es,ep,t,k _ _ (.inl rfl) e,c⟩
 | ins C dx fs =>
   obtain ⟨d,z,ne,e,mA,⟨od,es,ep,e2,c⟩,r⟩:=x
   exact ⟨ho _ d,z,ne,k _ _ (.inl rfl) e,mA,⟨od,es,ep,k _ _ (.inr d) e2,c⟩,r⟩
 | own y=>obtain ⟨ob,e⟩:=x;exact ⟨ob,k _ _ (.inl rfl) e⟩
 | xd fs=>obtain ⟨mA,⟨od,es,ep,e,c⟩,r⟩:=x;exact ⟨mA,⟨od,es,ep,k _ _ (.inl rfl) e,c⟩,r⟩
 | rng lo hi=>obtain ⟨t,u,v,e⟩:=x;exact ⟨t,u,v,k _ _ (.inl rfl) e⟩
 | frz ob u ih=>obtain ⟨e,q⟩:=x;exact ⟨k _ _ (.inl rfl) e,ih q⟩
 | tbl ps =>
   have e:h.get? a=some { cls:=.none,data:=.fields ps }:=x
   show h'.get? a=some { cls:=.none,data:=.fields ps }
   exact k a _ (.inl rfl) e
 | met f y =>
   have e:h.get? a=some (PySem.W.methodObj (.ref f) (.ref y)):=x
   show h'.get? a=some (PySem.W.methodObj (.ref f) (.ref y))
   exact k a _ (.inl rfl) e
 | ext φ=>obtain ⟨p,⟨o,e⟩,st⟩:=x;exact ⟨st _ _ p λo q=>k _ _ (.inl rfl) q,⟨o,k _ _ (.inl rfl) e⟩,st⟩
theorem HOk.lt (x:HOk P w H h) (e:H a=some o):a < h.objs.size:=(x a o e).lt
theorem HOk.fresh (x:HOk P w H h) (e:h.objs.size <= a):H a=none:=by
 cases q:H a with
 | none=>rfl
 | some u=>exact absurd (Nat.lt_of_lt_of_le (x.lt q) e) (Nat.lt_irrefl _)
theorem HOk.kept (x:HOk P w H h) (k:∀ b u,h.get? b=some u->h'.get? b=some u):HOk P w H h':=λa o e =>
 (x a o e).stay (λb u _ q=>k b u q) (λ_ q=>q) λ_ _ q=>q
theorem HOk.laid (x:HOk P w H h) (k:∀ b u,h.get? b=some u->h'.get? b=some u) (hp:h.objs.size <= a) (new:ObjOk P w (upd H a o) h' a o):HOk P w (upd H a o) h':=λb u e=>by
 have hn:=x.fresh hp
 by_cases hb:b=a
 · subst hb;rw [upd_same] at e;cases e;exact new
 · rw [upd_ne hb] at e
   exact (x b u e).stay (λc v _ q=>k c v q) (λc q=>by rw [upd_ne (ne_of_none q hn)];exact q) λc xs q=>by rw [upd_ne (ne_of_none q hn)];exact q
end

def Rd (H:Hp) (a:Addr) (u:HO):Prop:=H a=some u\/∃ o,H a=some (.frz o u)
theorem Rd.of {H:Hp} {a:Addr} {u:HO} (h:H a=some u):Rd H a u:=.inl h
theorem Rd.ok {P:Program} {w:World} {H:Hp} {h:Heap} {a:Addr} {u:HO} (r:Rd H a u) (x:HOk P w H h):ObjOk P w H h a u:=by
 rcases r with r | ⟨o,r⟩
 · exact x a u r
 · obtain ⟨_,q⟩:=x a _ r
   exact q
def Mut:Option HO->Prop
 | some (.lst _)=>True
 | some (.dK _)=>True
 | some (.dT _)=>True
 | some (.set _ _)=>True
 | some (.ins _ _ _)=>True
 | some (.ext _)=>True
 | _=>False
section
variable {P:Program} {w:World} {H:Hp} {h h':Heap} {x e:Addr} {o':HO}
theorem HOk.write (ok:HOk P w H h) (mu:Mut (H x)) (he:e=x\/H e=some (.own x)) (k:∀ b u,b≠e->h.get? b=some u->h'.get? b=some u) (heo:∃ u,h'.get? e=some u)
   (new:ObjOk P w (upd H x o') h' x o'):HOk P w (upd H x o') h':=λb u q=>by
 have nown:∀ c y,H c=some (.own y)->c≠x:=λc y r z=>by subst z;rw [r] at mu;exact mu
 have ntup:∀ c xs,H c=some (.tup xs)->c≠x:=λc xs r z=>by subst z;rw [r] at mu;exact mu
 by_cases hb:b=x
 · subst hb;rw [upd_same] at q;cases q;exact new
 · rw [upd_ne hb] at q
   by_cases hbe:b=e
   · have q':H b=some (.own x):=by
       rcases he with z | z
       · exact absurd (hbe.trans z) hb
       · rw [hbe];exact z
     rw [q] at q';cases q'
     obtain ⟨v,hv⟩:=heo
     exact ⟨v,by rw [hbe];exact hv⟩
   · refine (ok b u q).stay (λc v hc r=>k c v ?_ r) (λc r=>by rw [upd_ne (nown c b r)];exact r) λc xs r=>by rw [upd_ne (ntup c xs r)];exact r
     rcases hc with rfl | hc
     · exact hbe
     · rintro rfl
       rcases he with z | z
       · exact nown c b hc z
       · rw [hc] at z;cases z;exact hb rfl
end

structure Un (fs ex:List Addr) (H H':Hp) (h h':Heap):Prop where
 keep:∀ b o,h.get? b=some o->H b=none->b ∉ fs->b ∉ ex->h'.get? b=some o
 slot:∀ b o,h.get? b=some o->H b=none->b∈fs->b ∉ ex->∃ sl,h'.get? b=some { o with slots:=sl }
 free:∀ b o,h.get? b=some o->H b=none->b ∉ ex->H' b=none
 there:∀ b o,h.get? b=some o->b ∉ ex->∃ o',h'.get? b=some o'
 tups:∀ b xs,H b=some (.tup xs)->H' b=some (.tup xs)
 frzs:∀ b o u,H b=some (.frz o u)->H' b=some (.frz o u)
 tbls:∀ b ps,H b=some (.tbl ps)->∃ more,H' b=some (.tbl (ps++more))
section
variable {fs fs' ex ex':List Addr} {H H1 H2:Hp} {h h1 h2 h':Heap} {a x e:Addr} {o:HO}
theorem Un.any (u:Un fs ex H H1 h h1) {b:Addr} {ob:Obj} (q:h.get? b=some ob) (n:H b=none) (hx:b ∉ ex):∃ sl,h1.get? b=some { ob with slots:=sl }:=by
 by_cases hb:b∈fs
 · exact u.slot b ob q n hb hx
 · exact ⟨ob.slots,u.keep b ob q n hb hx⟩
theorem Un.trans (a:Un fs ex H H1 h h1) (b:Un fs ex H1 H2 h1 h2):Un fs ex H H2 h h2 where
 keep:=λc ob q n hc hx=>b.keep c ob (a.keep c ob q n hc hx) (a.free c ob q n hx) hc hx
 slot:=λc ob q n hc hx=>by
   obtain ⟨sl,e1⟩:=a.slot c ob q n hc hx
   obtain ⟨sl',e2⟩:=b.slot c _ e1 (a.free c ob q n hx) hc hx
   exact ⟨sl',e2⟩
 free:=λc ob q n hx=>by
   obtain ⟨o',e1⟩:=a.there c ob q hx
   exact b.free c o' e1 (a.free c ob q n hx) hx
 there:=λc ob q hx=>by
   obtain ⟨o',e1⟩:=a.there c ob q hx
   exact b.there c o' e1 hx
 tups:=λc xs q=>b.tups c xs (a.tups c xs q)
 frzs:=λc ob xs q=>b.frzs c ob xs (a.frzs c ob xs q)
 tbls:=λc ps q=>by
   obtain ⟨m1,e1⟩:=a.tbls c ps q
   obtain ⟨m2,e2⟩:=b.tbls c _ e1
   exact ⟨m1++m2,by rw [e2,Array.append_assoc]⟩
theorem Un.kept (k:∀ b u,h.get? b=some u->h'.get? b=some u):Un fs ex H H h h' :=
 ⟨λb ob q _ _ _=>k b ob q,λb ob q _ _ _=>⟨ob.slots,k b ob q⟩,λ_ _ _ n _=>n,λb ob q _=>⟨ob,k b ob q⟩,λ_ _ q=>q,λ_ _ _ q=>q,λ_ ps q=>⟨#[],by rw [q];simp⟩⟩
theorem Un.refl:Un fs ex H H h h:=Un.kept λ_ _ q=>q
theorem Un.laid (k:∀ b u,h.get? b=some u->h'.get? b=some u) (hp:h.objs.size <= a) (hn:H a=none):Un fs ex H (upd H a o) h h' where
 keep:=λb u q _ _ _=>k b u q
 slot:=λb u q _ _ _=>⟨u.slots,k b u q⟩
 free:=λb u q n _=>by rw [upd_ne (Nat.ne_of_lt (Nat.lt_of_lt_of_le (Heap.lt_size q) hp))];exact n
 there:=λb u q _=>⟨u,k b u q⟩
 tups:=λb xs q=>by rw [upd_ne (ne_of_none q hn)];exact q
 frzs:=λb u xs q=>by rw [upd_ne (ne_of_none q hn)];exact q
 tbls:=λb ps q=>⟨#[],by rw [upd_ne (ne_of_none q hn),q];simp⟩
theorem Un.write (mu:Mut (H x)) (he:e=x\/H e=some (.own x)) (k:∀ b u,b≠e->h.get? b=some u->h'.get? b=some u) (heo:∃ u,h'.get? e=some u):Un fs ex H (upd H x o) h h':=by
 have hx:∀ b,H b=none->b≠x:=λb n z=>by subst z;rw [n] at mu;exact mu
 have hb:∀ b,H b=none->b≠e:=λb n z=>by
   subst z
   rcases he with r | r
   · exact hx b n r
   · rw [n] at r;cases r
 have hm:∀ b u,H b=some u->¬ Mut (some u)->b≠x:=λb u q nm z=>by subst z;rw [q] at mu;exact nm mu
 refine ⟨λb u q n _ _=>k b u (hb b n) q,λb u q n _ _=>⟨u.slots,k b u (hb b n) q⟩,λb u q n _=>by rw [upd_ne (hx b n)];exact n,λb u q _=>?_,
   λb xs q=>by rw [upd_ne (hm b _ q λz=>z)];exact q,λb u xs q=>by rw [upd_ne (hm b _ q λz=>z)];exact q,λb ps q=>⟨#[],by rw [upd_ne (hm b _ q λz=>z),q];simp⟩⟩
 by_cases hbe:b=e
 · subst hbe;exact heo
 · exact ⟨u,k b u hbe q⟩
theorem Un.mono (u:Un fs ex H H1 h h1) (hs:∀ b∈fs,b∈fs') (hx:∀ b∈ex,b∈ex'):Un fs' ex' H H1 h h1 :=
 ⟨λb ob q n hb he=>u.keep b ob q n (λz=>hb (hs b z)) λz=>he (hx b z),λ_ _ q n _ he=>u.any q n λz=>he (hx _ z),λb ob q n he=>u.free b ob q n λz=>he (hx b z),λb ob q he=>u.there b ob q λz=>he (hx b z),u.tups,u.frzs,u.tbls⟩
end

def trk (h:Heap) (H:Hp):List Addr:=(List.range h.objs.size).filter λa=>(H a).isSome
def hidT (h:Heap) (H:Hp):Heap:=PySem.W.hideAll h (trk h H)
theorem hidT_size (h:Heap) (H:Hp):(hidT h H).objs.size=h.objs.size:=PySem.W.hideAll_size _ _
theorem hidT_get {h:Heap} {H:Hp} {b:Addr} {o:Obj} (e:h.get? b=some o) (n:H b=none):(hidT h H).get? b=some o :=
 PySem.W.hideAll_get _ e λhm=>by
   have q:(H b).isSome=true:=(List.mem_filter.mp hm).2
   rw [n] at q;simp at q
theorem of_hidT {h:Heap} {H:Hp} {b:Addr} {o:Obj} (e:(hidT h H).get? b=some o):h.get? b=some o/\H b=none:=by
 have e':h.get? b=some o:=PySem.W.of_hideAll (trk h H) e
 refine ⟨e',?_⟩
 cases q:H b with
 | none=>rfl
 | some x =>
   have hm:b∈trk h H:=List.mem_filter.mpr ⟨List.mem_range.mpr (Heap.lt_size e'),by simp [q]⟩
   have z:(hidT h H).get? b=none:=PySem.W.hideAll_none (trk h H) hm
   rw [z] at e;cases e

def allNews (g h:Heap) (L:Addr):List (Addr × Obj):=(List.range h.objs.size).filterMap λa=>if a=L\/(g.get? a).isSome=true then none else (h.get? a).map λo=>(a,o)
def rest (g h:Heap) (L d:Addr):List (Addr × Obj):=(allNews g h L).filter λp=>decide (p.1≠d)
end L2

namespace L2
open PySem PySem.Spec PyProof.Rows

structure Mod (K:PySem.W.Frag) (mg:Str->Option Value) (base:Heap):Prop where
 kin:K.In base
 glob:base.Ns mainGlobals mg
 blt:∃ mb,base.Ns builtinsNs mb/\∀ x:Str,x≠"__name__"->mb x=bootBuiltins x
 nolimit:base.NoLimit

structure Cx where
 prog:Program
 w:World
 K:PySem.W.Frag
 mg:Str->Option Value
 base:Heap
 A:Around
 N:List Str
 s₀:Shared
 H₀:Hp
 env:Env
 outer:List Env
 stack:List Env
 ex:List Addr
 fn:Str->Bool
 calm:Bool
 pn:List (Addr × Obj)
 xe:Value->Shared->Prop
def frs (l:List Env):List Addr:=l.filterMap (·.frame)
abbrev Cx.fs (X:Cx):List Addr:=frs X.outer

def Vis (sc:Scope) (x:Str):Prop:=sc.names.lookup x=some .local\/sc.names.lookup x=some .cell\/sc.names.lookup x=some .free
def Loc (sc:Scope) (x:Str):Prop:=sc.names.lookup x=some .local\/sc.names.lookup x=some .cell
def Look (env:Env) (h:Heap) (m:Str->Option Value) (x:Str) (u:Value):Prop :=
 (env.kindOf x=some .local/\m x=some u)\/((env.kindOf x=some .cell\/env.kindOf x=some .free)/\∃ c,env.cells.lookup x=some c/\h.IsCell c (some u))

structure Cx.Ok (X:Cx):Prop where
 mod:Mod X.K X.mg X.base
 kind:X.env.scope.kind=.function
 glob:X.env.globals=mainGlobals
 blt:X.env.builtins=builtinsNs
 above:X.s₀.heap.objs.size <= X.env.locals
 inj:∀ x y c,X.env.cells.lookup x=some c->X.env.cells.lookup y=some c->x=y
 has:∀ x,(X.env.kindOf x=some .cell\/X.env.kindOf x=some .free)->∃ c,X.env.cells.lookup x=some c
 cab:∀ x c,X.fn x=true->X.env.cells.lookup x=some c->X.s₀.heap.objs.size <= c
 hd:X.calm=true->X.A.handled=none
 frames:X.A.frames=some X.stack
 stk:X.stack=X.outer\/(X.stack=X.env :: X.outer/\X.env.frame=some X.env.locals)
 exf:∀ b∈X.ex,b≠X.env.locals/\∀ x c,X.env.cells.lookup x=some c->c≠b
 bs:∀ b o,X.base.get? b=some o->X.s₀.heap.get? b=some o/\X.H₀ b=none
 bsz:X.base.objs.size <= X.s₀.heap.objs.size
 noex:∀ b o,X.base.get? b=some o->b ∉ X.ex
 exfs:∀ b∈X.ex,b ∉ X.fs
 funs:X.s₀.heap.FunFrames X.base X.outer
 frf:∀ b∈X.fs,X.H₀ b=none

structure Inv (X:Cx) (pins:List (Addr × Obj)) (σ:List (Option V)) (H:Hp) (s:Shared):Prop where
 ok:X.Ok
 os:s.os=X.s₀.os
 bare:AllBare s.gens
 base:Un X.fs X.ex X.H₀ H X.s₀.heap s.heap
 loc:∃ m,s.heap.Ns X.env.locals m/\∀ (i:Nat) (x:Str) (v:V),X.N[i]?=some x->σ[i]?=some (some v)->Vis X.env.scope x->∃ u,RelV v u/\Look X.env s.heap m x u
 cell:∀ x c,X.env.cells.lookup x=some c->∃ v,s.heap.IsCell c v
 free:H X.env.locals=none
 freeC:∀ x c,X.env.cells.lookup x=some c->H c=none
 pin:∀ p∈X.pn++pins,s.heap.get? p.1=some p.2/\H p.1=none/\p.1≠X.env.locals/\p.1 ∉ X.fs/\∀ v,p.2.data≠.cell v
 hok:HOk X.prog X.w H s.heap
 len:σ.length=X.N.length

section
variable {X:Cx} {pins:List (Addr × Obj)} {σ:List (Option V)} {H H':Hp} {s:Shared} {h':Heap}

theorem Cx.Ok.nofr (ok:X.Ok) {b:Addr} {o:Obj} (e:X.base.get? b=some o):b ∉ X.fs:=λhb=>by
 have:=(ok.funs.mem hb).1
 rw [e] at this;cases this
theorem Inv.bs (I:Inv X pins σ H s):∀ b o,X.base.get? b=some o->s.heap.get? b=some o/\H b=none:=λb o e =>
 ⟨I.base.keep b o (I.ok.bs b o e).1 (I.ok.bs b o e).2 (I.ok.nofr e) (I.ok.noex b o e),I.base.free b o (I.ok.bs b o e).1 (I.ok.bs b o e).2 (I.ok.noex b o e)⟩
theorem Inv.bk (I:Inv X pins σ H s):∀ b o,X.base.get? b=some o->s.heap.get? b=some o:=λb o e=>(I.bs b o e).1
theorem Inv.mod (I:Inv X pins σ H s):Mod X.K X.mg X.base:=I.ok.mod
theorem Inv.kIn (I:Inv X pins σ H s):X.K.In s.heap:=I.ok.mod.kin.keeps I.bk
theorem Inv.nolimit (I:Inv X pins σ H s):s.heap.NoLimit:=I.ok.mod.nolimit.keeps I.bk
theorem Inv.fr (I:Inv X pins σ H s):∃ m,Fr X.base X.env.locals s.heap m :=
 let ⟨m,hn,_⟩:=I.loc
 ⟨m,hn,I.bk,Nat.le_trans I.ok.bsz I.ok.above⟩
theorem Inv.lt (I:Inv X pins σ H s):X.env.locals < s.heap.objs.size:=let ⟨_,hn,_⟩:=I.loc;hn.lt
theorem Inv.sz (I:Inv X pins σ H s):X.s₀.heap.objs.size <= s.heap.objs.size:=Nat.le_trans I.ok.above (Nat.le_of_lt I.lt)
theorem Inv.nofs (I:Inv X pins σ H s) {a:Addr} (h:s.heap.objs.size <= a):a ∉ X.fs:=λhb=>by
 obtain ⟨_,o,ho,_⟩:=I.ok.funs.mem hb
 exact absurd (Nat.lt_of_lt_of_le (Heap.lt_size ho) (Nat.le_trans I.sz h)) (Nat.lt_irrefl _)
theorem Inv.cne (I:Inv X pins σ H s):∀ x c,X.env.cells.lookup x=some c->c≠X.env.locals:=λx c e z=>by
 obtain ⟨v,o,ho,hd⟩:=I.cell x c e
 obtain ⟨m,⟨o',es,ep,ho',hd',_⟩,_⟩:=I.loc
 rw [z,ho'] at ho;cases ho;rw [hd'] at hd;cases hd
theorem Inv.funs (I:Inv X pins σ H s):s.heap.FunFrames X.base X.outer:=by
 have all:∀ (l:List Env),(∀ b∈frs l,b∈X.fs)->X.s₀.heap.FunFrames X.base l->s.heap.FunFrames X.base l:=by
   intro l
   induction l with
   | nil=>intro _ _;trivial
   | cons env r ih =>
     intro hs hl
     obtain ⟨hk,⟨L,o,hf,hn,ho,hd⟩,hr⟩:=hl
     have hL:L∈X.fs:=hs L (by unfold frs;rw [List.filterMap_cons,hf];exact List.mem_cons_self)
     obtain ⟨sl,e⟩:=I.base.slot L o ho (I.ok.frf L hL) hL λz=>I.ok.exfs L z hL
     exact ⟨hk,⟨L,_,hf,hn,e,hd⟩,ih (λb hb=>hs b (by unfold frs;rw [List.filterMap_cons,hf];exact List.mem_cons_of_mem _ hb)) hr⟩
 exact all X.outer (λ_ hb=>hb) I.ok.funs

theorem Inv.stack (I:Inv X pins σ H s):s.heap.FunFrames X.base X.stack:=by
 rcases I.ok.stk with e | ⟨e,hf⟩
 · rw [e];exact I.funs
 · rw [e]
   obtain ⟨m,hn,_⟩:=I.loc
   refine .cons (by rw [I.ok.kind];decide) hf hn ?_ I.funs
   exact Heap.get?_none_of_le (Nat.le_trans I.ok.bsz I.ok.above)
theorem Inv.stkSub (I:Inv X pins σ H s):∀ b∈frs X.stack,b∈X.env.locals :: X.fs:=λb hb=>by
 rcases I.ok.stk with e | ⟨e,hf⟩
 · rw [e] at hb;exact List.mem_cons_of_mem _ hb
 · rw [e] at hb
   unfold frs at hb
   rw [List.filterMap_cons,hf] at hb
   exact hb
theorem Inv.stkFree (I:Inv X pins σ H s):∀ b∈frs X.stack,H b=none:=λb hb=>by
 rcases List.mem_cons.mp (I.stkSub b hb) with e | hb
 · rw [e];exact I.free
 · obtain ⟨_,o,ho,_⟩:=I.ok.funs.mem hb
   exact I.base.free b o ho (I.ok.frf b hb) λz=>I.ok.exfs b z hb

theorem Inv.step {g':Array GenState} {t':Nat} {d':Drawn} {ch:List Addr} (I:Inv X pins σ H s)
   (hch:∀ b∈ch,(b∈X.ex\/X.s₀.heap.objs.size <= b)/\b≠X.env.locals/\(∀ x c,X.env.cells.lookup x=some c->c≠b)/\∀ p∈X.pn++pins,p.1≠b)
   (keep:∀ b o,b≠X.env.locals->b ∉ X.fs->b ∉ ch->s.heap.get? b=some o->H b=none->h'.get? b=some o)
   (slot:∀ b o,b≠X.env.locals->b∈X.fs->b ∉ ch->s.heap.get? b=some o->H b=none->∃ sl,h'.get? b=some { o with slots:=sl }) (free:∀ b o,b ∉ ch->s.heap.get? b=some o->H b=none->H' b=none)
   (there:∀ b o,b ∉ ch->s.heap.get? b=some o->∃ o',h'.get? b=some o')
   (tups:∀ b xs,H b=some (.tup xs)->H' b=some (.tup xs)) (frzs:∀ b o u,H b=some (.frz o u)->H' b=some (.frz o u)) (tbls:∀ b ps,H b=some (.tbl ps)->∃ more,H' b=some (.tbl (ps++more)))
   (ns:∀ m,s.heap.Ns X.env.locals m->h'.Ns X.env.locals m) (hok:HOk X.prog X.w H' h') (hg:AllBare g') :
   Inv X pins σ H' { s with heap:=h',gens:=g',drawn:=d',toks:=t' }:=by
 have neL:∀ b o,X.s₀.heap.get? b=some o->b≠X.env.locals:=λb o e=>Nat.ne_of_lt (Nat.lt_of_lt_of_le (Heap.lt_size e) I.ok.above)
 have neC:∀ b o,X.s₀.heap.get? b=some o->b ∉ X.ex->b ∉ ch:=λb o e hx hb=>by
   rcases (hch b hb).1 with z | z
   · exact hx z
   · exact absurd (Nat.lt_of_lt_of_le (Heap.lt_size e) z) (Nat.lt_irrefl _)
 have cellK:∀ x c,X.env.cells.lookup x=some c->∀ v,s.heap.IsCell c v->h'.IsCell c v:=λx c e v ⟨o,ho,hd⟩=>by
   have nch:c ∉ ch:=λz=>(hch c z).2.2.1 x c e rfl
   by_cases hc:c∈X.fs
   · obtain ⟨sl,q⟩:=slot c o (I.cne x c e) hc nch ho (I.freeC x c e)
     exact ⟨_,q,hd⟩
   · exact ⟨o,keep c o (I.cne x c e) hc nch ho (I.freeC x c e),hd⟩
 refine ⟨I.ok,I.os,hg,⟨λb o e n hb hx=>?_,λb o e n hb hx=>?_,λb o e n hx=>?_,λb o e hx=>?_,λb xs e=>tups b xs (I.base.tups b xs e),λb o xs e=>frzs b o xs (I.base.frzs b o xs e),λb ps e=>?_⟩,?_,λx c e=>?_,?_,λx c e=>?_,λp hp=>?_,hok,I.len⟩
 · exact keep b o (neL b o e) hb (neC b o e hx) (I.base.keep b o e n hb hx) (I.base.free b o e n hx)
 · obtain ⟨sl,e1⟩:=I.base.slot b o e n hb hx
   obtain ⟨sl',e2⟩:=slot b _ (neL b o e) hb (neC b o e hx) e1 (I.base.free b o e n hx)
   exact ⟨sl',e2⟩
 · obtain ⟨o',e1⟩:=I.base.there b o e hx
   exact free b o' (neC b o e hx) e1 (I.base.free b o e n hx)
 · obtain ⟨o',e1⟩:=I.base.there b o e hx
   exact there b o' (neC b o e hx) e1
 · obtain ⟨m1,e1⟩:=I.base.tbls b ps e
   obtain ⟨m2,e2⟩:=tbls b _ e1
   exact ⟨m1++m2,by rw [e2,Array.append_assoc]⟩
 · obtain ⟨m,hn,hl⟩:=I.loc
   refine ⟨m,ns m hn,λi x v e1 e2 e3=>?_⟩
   obtain ⟨u,r,l⟩:=hl i x v e1 e2 e3
   refine ⟨u,r,?_⟩
   rcases l with l | ⟨k,c,e,z⟩
   · exact .inl l
   · exact .inr ⟨k,c,e,cellK x c e _ z⟩
 · obtain ⟨v,z⟩:=I.cell x c e
   exact ⟨v,cellK x c e v z⟩
 · obtain ⟨m,⟨o,_,_,ho,_⟩,_⟩:=I.loc
   exact free _ o (λz=>(hch _ z).2.1 rfl) ho I.free
 · obtain ⟨v,o,ho,hd⟩:=I.cell x c e
   exact free c o (λz=>(hch c z).2.2.1 x c e rfl) ho (I.freeC x c e)
 · obtain ⟨e,n,ne,nf,d⟩:=I.pin p hp
   have nch:p.1 ∉ ch:=λz=>(hch p.1 z).2.2.2 p hp rfl
   exact ⟨keep p.1 p.2 ne nf nch e n,free p.1 p.2 nch e n,ne,nf,d⟩
theorem Inv.un {t':Nat} (I:Inv X pins σ H s) (u:Un X.fs [] H H' s.heap h') (hok:HOk X.prog X.w H' h'):Inv X pins σ H' { s with heap:=h',toks:=t' }:=by
 obtain ⟨m,⟨o,es,ep,ho,r⟩,_⟩:=id I.loc
 obtain ⟨sl,hL⟩:=u.any ho I.free (by simp)
 exact I.step (g':=s.gens) (d':=s.drawn) (ch:=[]) (λ_ z=>nomatch z) (λb o _ hb _ e n=>u.keep b o e n hb (by simp)) (λb o _ hb _ e n=>u.slot b o e n hb (by simp)) (λb o _ e n=>u.free b o e n (by simp)) (λb o _ e=>u.there b o e (by simp)) u.tups u.frzs u.tbls (λm' hm=>by
   obtain ⟨o',es',ep',ho',r'⟩:=hm
   rw [ho] at ho';cases ho'
   exact ⟨_,es',ep',hL,r'⟩) hok I.bare
theorem Inv.call {g':Array GenState} {t':Nat} {d':Drawn} {ch:List Addr} (I:Inv X pins σ H s) (u:Un (frs X.stack) ch H H' s.heap h') (hok:HOk X.prog X.w H' h') (hg:AllBare g')
   (hch:∀ b∈ch,(b∈X.ex\/X.s₀.heap.objs.size <= b)/\b≠X.env.locals/\(∀ x c,X.env.cells.lookup x=some c->c≠b)/\∀ p∈X.pn++pins,p.1≠b) :
   Inv X pins σ H' { s with heap:=h',gens:=g',drawn:=d',toks:=t' }:=by
 obtain ⟨m,⟨o,es,ep,ho,r⟩,_⟩:=id I.loc
 obtain ⟨sl,hL⟩:=u.any ho I.free λz=>(hch _ z).2.1 rfl
 exact I.step (ch:=ch) hch (λb o hL hb hc e n=>u.keep b o e n (λz=>(List.mem_cons.mp (I.stkSub b z)).elim hL hb) hc) (λb o _ _ hc e n=>u.any e n hc) (λb o hc e n=>u.free b o e n hc) (λb o hc e=>u.there b o e hc) u.tups u.frzs u.tbls (λm' hm=>by
   obtain ⟨o',es',ep',ho',r'⟩:=hm
   rw [ho] at ho';cases ho'
   exact ⟨_,es',ep',hL,r'⟩) hok hg
theorem Inv.turned {t':Nat} {it:Addr} (I:Inv X pins σ H s) (k:∀ b o,b≠it->s.heap.get? b=some o->h'.get? b=some o) (hn:H it=none) (hL:it≠X.env.locals)
   (h1:it∈X.ex\/X.s₀.heap.objs.size <= it) (h2:∀ x c,X.env.cells.lookup x=some c->c≠it) (h3:∀ p∈X.pn++pins,p.1≠it):Inv X pins σ H { s with heap:=h',toks:=t' }:=by
 have nit:∀ b u,H b=some u->b≠it:=λb u e z=>by rw [z,hn] at e;cases e
 refine I.step (g':=s.gens) (d':=s.drawn) (ch:=[it]) (λb hb=>?_) (λb o _ _ hc e _=>k b o (λz=>hc (by simp [z])) e) (λb o _ _ hc e _=>⟨o.slots,k b o (λz=>hc (by simp [z])) e⟩) (λ_ _ _ _ n=>n)
   (λb o hc e=>⟨o,k b o (λz=>hc (by simp [z])) e⟩) (λ_ _ e=>e) (λ_ _ _ e=>e) (λb ps e=>⟨#[],by rw [e];simp⟩) (λm hm=>?_) (λb u e=>?_) I.bare
 · have e:b=it:=by simpa using hb
   subst e
   exact ⟨h1,hL,h2,h3⟩
 · obtain ⟨o,es,ep,ho,r⟩:=hm
   exact ⟨o,es,ep,k _ o (Ne.symm hL) ho,r⟩
 · refine (I.hok b u e).stay (λc v hc q=>k c v ?_ q) (λ_ q=>q) λ_ _ q=>q
   rcases hc with z | z
   · rw [z];exact nit b u e
   · exact nit c _ z
theorem Inv.tok (I:Inv X pins σ H s) (t:Nat):Inv X pins σ H { s with toks:=t }:=I.un (h':=s.heap) (t':=t) Un.refl I.hok
theorem Inv.kept {t':Nat} (I:Inv X pins σ H s) (k:∀ b u,s.heap.get? b=some u->h'.get? b=some u):Inv X pins σ H { s with heap:=h',toks:=t' }:=I.un (Un.kept k) (I.hok.kept k)
theorem Inv.laid {a:Addr} {o:HO} {t':Nat} (I:Inv X pins σ H s) (k:∀ b u,s.heap.get? b=some u->h'.get? b=some u) (hp:s.heap.objs.size <= a) (new:ObjOk X.prog X.w (upd H a o) h' a o) :
   Inv X pins σ (upd H a o) { s with heap:=h',toks:=t' }:=I.un (Un.laid k hp (I.hok.fresh hp)) (I.hok.laid k hp new)
theorem Inv.write {x e:Addr} {o:HO} {t':Nat} (I:Inv X pins σ H s) (mu:Mut (H x)) (he:e=x\/H e=some (.own x)) (k:∀ b u,b≠e->s.heap.get? b=some u->h'.get? b=some u) (heo:∃ u,h'.get? e=some u)
   (new:ObjOk X.prog X.w (upd H x o) h' x o):Inv X pins σ (upd H x o) { s with heap:=h',toks:=t' }:=I.un (Un.write mu he k heo) (I.hok.write mu he k heo new)
theorem Inv.pins_of {pins':List (Addr × Obj)} (I:Inv X pins σ H s) (h:∀ p∈pins',s.heap.get? p.1=some p.2/\H p.1=none/\p.1≠X.env.locals/\p.1 ∉ X.fs/\∀ v,p.2.data≠.cell v):Inv X pins' σ H s :=
 ⟨I.ok,I.os,I.bare,I.base,I.loc,I.cell,I.free,I.freeC,λp hp=>(List.mem_append.mp hp).elim (λz=>I.pin p (List.mem_append_left _ z)) (h p),I.hok,I.len⟩

theorem nodup_ix {N:List Str} (hN:N.Nodup) {i j:Nat} {x:Str} (a:N[i]?=some x) (b:N[j]?=some x):i=j:=by
 obtain ⟨h1,e1⟩:=List.getElem?_eq_some_iff.mp a
 obtain ⟨h2,e2⟩:=List.getElem?_eq_some_iff.mp b
 exact (List.getElem_inj hN).mp (e1.trans e2.symm)

theorem store_ok2 {M:Model} {A:Around} {E:Value->Shared->Prop} {i:Nat} {x:Str} {v:V} {u:Value} {Q:Unit->Shared->Prop} (I:Inv X pins σ H s) (hN:X.N.Nodup) (hi:X.N[i]?=some x) (hx:Loc X.env.scope x) (r:RelV v u)
   (h:∀ s',Inv X pins (σ.set i (some v)) H s'->(∃ a,Heap.SameBut a s.heap s'.heap/\(a=X.env.locals\/X.env.cells.lookup x=some a))->Q () s') (hf:X.fn x=true\/X.env.scope.names.lookup x=some .local:=by first | exact .inl rfl | exact .inr rfl | assumption):wpAny M A (storeName X.env x u) Q E s:=by
 obtain ⟨m,hn,hl⟩:=id I.loc
 have hcls:(X.env.scope.kind == .class || (X.env.scope.kind == .module && X.env.locals != X.env.globals))=false:=by rw [I.ok.kind];rfl
 have hiσ:i < σ.length:=by rw [I.len];exact (List.getElem?_eq_some_iff.mp hi).1
 have cne:=I.cne
 have tracked:∀ {a:Addr} {h':Heap},(∃ o,s.heap.get? a=some o/\H a=none)->Heap.SameBut a s.heap h'->HOk X.prog X.w H h':=λ{a h'} ha hs b ob e=>by
   obtain ⟨_,_,hfree⟩:=ha
   refine (I.hok b ob e).stay (λc w' hc q=>(hs.2 c ?_).trans q) (λ_ q=>q) λ_ _ q=>q
   rintro rfl
   rcases hc with rfl | hc
   · rw [hfree] at e;cases e
   · rw [hfree] at hc;cases hc
 rcases hx with hk | hk
 · refine wpAny_storeName_local hk hn (λh' hn' hs=>?_) hcls
   obtain ⟨oL,_,_,hoL,_⟩:=id hn
   refine h _ ⟨I.ok,I.os,I.bare,⟨λb o e n hb hx=>?_,λb o e n hb hx=>?_,I.base.free,λb o e hx=>?_,I.base.tups,I.base.frzs,I.base.tbls⟩,⟨_,hn',λj y v' e1 e2 e3=>?_⟩,λy c e=>?_,I.free,I.freeC,λp hp=>?_,tracked ⟨oL,hoL,I.free⟩ hs,by simpa using I.len⟩ ⟨_,hs,.inl rfl⟩
   · exact (hs.2 b (Nat.ne_of_lt (Nat.lt_of_lt_of_le (Heap.lt_size e) I.ok.above))).trans (I.base.keep b o e n hb hx)
   · obtain ⟨sl,e1⟩:=I.base.slot b o e n hb hx
     exact ⟨sl,(hs.2 b (Nat.ne_of_lt (Nat.lt_of_lt_of_le (Heap.lt_size e) I.ok.above))).trans e1⟩
   · obtain ⟨o',e1⟩:=I.base.there b o e hx
     exact ⟨o',(hs.2 b (Nat.ne_of_lt (Nat.lt_of_lt_of_le (Heap.lt_size e) I.ok.above))).trans e1⟩
   · by_cases hj:j=i
     · subst hj
       rw [hi] at e1;cases e1
       rw [List.getElem?_set_self hiσ] at e2
       cases e2
       exact ⟨u,r,.inl ⟨hk,by simp⟩⟩
     · rw [List.getElem?_set_ne (Ne.symm hj)] at e2
       obtain ⟨u',r',q⟩:=hl j y v' e1 e2 e3
       refine ⟨u',r',?_⟩
       rcases q with ⟨k,e⟩ | ⟨k,c,e,z⟩
       · refine .inl ⟨k,?_⟩
         have:y≠x:=λe=>hj (nodup_ix hN e1 (e ▸ hi))
         simp [this,e]
       · exact .inr ⟨k,c,e,z.sameBut hs (cne y c e)⟩
   · obtain ⟨w',z⟩:=I.cell y c e
     exact ⟨w',z.sameBut hs (cne y c e)⟩
   · obtain ⟨e,n,ne,nf,d⟩:=I.pin p hp
     exact ⟨(hs.2 p.1 ne).trans e,n,ne,nf,d⟩
 · have hfn:X.fn x=true:=by
     rcases hf with z | z
     · exact z
     · rw [z] at hk;cases hk
   obtain ⟨c,hc⟩:=I.ok.has x (.inl hk)
   obtain ⟨w',z⟩:=I.cell x c hc
   refine wpAny_storeName_cell I.ok.kind hk hc z (λh' hc' hs=>?_)
   obtain ⟨oc,hoc,hocd⟩:=id z
   refine h { s with heap:=h' } ⟨I.ok,I.os,I.bare,⟨λb o e n hb hx=>?_,λb o e n hb hx=>?_,I.base.free,λb o e hx=>?_,I.base.tups,I.base.frzs,I.base.tbls⟩,⟨m,hn.sameBut hs (Ne.symm (cne x c hc)),λj y v' e1 e2 e3=>?_⟩,λy c' e=>?_,I.free,I.freeC,λp hp=>?_,tracked ⟨oc,hoc,I.freeC x c hc⟩ hs,by simpa using I.len⟩ ⟨c,hs,.inr hc⟩
   · exact (hs.2 b (Nat.ne_of_lt (Nat.lt_of_lt_of_le (Heap.lt_size e) (I.ok.cab x c hfn hc)))).trans (I.base.keep b o e n hb hx)
   · obtain ⟨sl,e1⟩:=I.base.slot b o e n hb hx
     exact ⟨sl,(hs.2 b (Nat.ne_of_lt (Nat.lt_of_lt_of_le (Heap.lt_size e) (I.ok.cab x c hfn hc)))).trans e1⟩
   · obtain ⟨o',e1⟩:=I.base.there b o e hx
     exact ⟨o',(hs.2 b (Nat.ne_of_lt (Nat.lt_of_lt_of_le (Heap.lt_size e) (I.ok.cab x c hfn hc)))).trans e1⟩
   · by_cases hj:j=i
     · subst hj
       rw [hi] at e1;cases e1
       rw [List.getElem?_set_self hiσ] at e2
       cases e2
       exact ⟨u,r,.inr ⟨.inl hk,c,hc,hc'⟩⟩
     · rw [List.getElem?_set_ne (Ne.symm hj)] at e2
       obtain ⟨u',r',q⟩:=hl j y v' e1 e2 e3
       refine ⟨u',r',?_⟩
       rcases q with q | ⟨k,c',e,z'⟩
       · exact .inl q
       · refine .inr ⟨k,c',e,z'.sameBut hs ?_⟩
         rintro rfl
         exact hj (nodup_ix hN e1 (I.ok.inj _ _ _ e hc ▸ hi))
   · by_cases hcc:c'=c
     · subst hcc;exact ⟨_,hc'⟩
     · obtain ⟨w2,z2⟩:=I.cell y c' e
       exact ⟨w2,z2.sameBut hs hcc⟩
   · obtain ⟨e,n,ne,nf,d⟩:=I.pin p hp
     refine ⟨(hs.2 p.1 ?_).trans e,n,ne,nf,d⟩
     intro q
     rw [q,hoc] at e
     have q':oc=p.2:=Option.some.inj e
     exact d w' (by rw [← q'];exact hocd)
theorem store_ok {M:Model} {A:Around} {E:Value->Shared->Prop} {i:Nat} {x:Str} {v:V} {u:Value} {Q:Unit->Shared->Prop} (I:Inv X pins σ H s) (hN:X.N.Nodup) (hi:X.N[i]?=some x) (hx:Loc X.env.scope x) (r:RelV v u)
   (h:∀ s',Inv X pins (σ.set i (some v)) H s'->Q () s') (hf:X.fn x=true\/X.env.scope.names.lookup x=some .local:=by first | exact .inl rfl | exact .inr rfl | assumption):wpAny M A (storeName X.env x u) Q E s :=
 store_ok2 I hN hi hx r (λs' I' _=>h s' I') hf
theorem Inv.call' {s':Shared} {ch:List Addr} (I:Inv X pins σ H s) (ho:s'.os=s.os) (u:Un (frs X.stack) ch H H' s.heap s'.heap) (hok:HOk X.prog X.w H' s'.heap) (hg:AllBare s'.gens)
   (hch:∀ b∈ch,(b∈X.ex\/X.s₀.heap.objs.size <= b)/\b≠X.env.locals/\(∀ x c,X.env.cells.lookup x=some c->c≠b)/\∀ p∈X.pn++pins,p.1≠b):Inv X pins σ H' s':=by
 obtain ⟨h',g',d',t',o'⟩:=s'
 have e:o'=s.os:=ho
 subst e
 exact I.call (g':=g') (t':=t') (d':=d') u hok hg hch
end

abbrev XK:=Value->Option Addr->Hp->Prop
abbrev St:=List (Option V)
abbrev VK:=V->Hp->Prop
abbrev TE:=St->Hp->VK->Prop
abbrev TT:=St->Hp->(Bool->Hp->Prop)->Prop
abbrev TA:=St->Hp->(List V->Hp->Prop)->Prop
structure Ends where
 nx:St->Hp->Prop
 rt:VK
 bk:St->Hp->Prop:=λ_ _=>False
 ct:St->Hp->Prop:=λ_ _=>False
abbrev TS:=Ends->St->Hp->Prop

def EP (X:Cx) (pins:List (Addr × Obj)) (σ:St) (Q:VK) (u:Value) (s':Shared):Prop:=∃ v H',Inv X pins σ H' s'/\RelV v u/\Q v H'
def TP (X:Cx) (pins:List (Addr × Obj)) (σ:St) (Q:Bool->Hp->Prop) (b:Bool) (s':Shared):Prop:=∃ H',Inv X pins σ H' s'/\Q b H'
def AP (X:Cx) (pins:List (Addr × Obj)) (σ:St) (Q:List V->Hp->Prop) (us:List Value) (s':Shared):Prop:=∃ vs H',Inv X pins σ H' s'/\Vals vs us/\Q vs H'
def SP (X:Cx) (pins:List (Addr × Obj)) (D:Ends) (f:Flow) (s':Shared):Prop :=
 match f with
 | .next=>∃ σ' H',Inv X pins σ' H' s'/\D.nx σ' H'
 | .brk=>∃ σ' H',Inv X pins σ' H' s'/\D.bk σ' H'
 | .cont=>∃ σ' H',Inv X pins σ' H' s'/\D.ct σ' H'
 | .ret u=>∃ v σ' H',Inv X pins σ' H' s'/\RelV v u/\D.rt v H'

def PE (X:Cx) (e:Expr) (t:TE):Prop :=
 ∀ (pins:List (Addr × Obj)) (s:Shared) (σ:St) (H:Hp) (Q:VK),Inv X pins σ H s->t σ H Q->wpAny (model X.prog X.w) X.A (eval e X.env) (EP X pins σ Q) X.xe s
def PT (X:Cx) (e:Expr) (t:TT):Prop :=
 ∀ (pins:List (Addr × Obj)) (s:Shared) (σ:St) (H:Hp) (Q:Bool->Hp->Prop),Inv X pins σ H s->t σ H Q->wpAny (model X.prog X.w) X.A (isTrue e X.env (eval e X.env)) (TP X pins σ Q) X.xe s
def PW (X:Cx) (e:Expr) (t:TT):Prop :=
 ∀ (whole:Sem Value) (pins:List (Addr × Obj)) (s:Shared) (σ:St) (H:Hp) (Q:Bool->Hp->Prop),Inv X pins σ H s->t σ H Q->wpAny (model X.prog X.w) X.A (isTrue e X.env whole) (TP X pins σ Q) X.xe s
theorem PW.pt {X:Cx} {e:Expr} {t:TT} (h:PW X e t):PT X e t:=h _
def PA (X:Cx) (es:List Expr) (t:TA):Prop :=
 ∀ (pos:Pos) (pins:List (Addr × Obj)) (s:Shared) (σ:St) (H:Hp) (Q:List V->Hp->Prop),Inv X pins σ H s->t σ H Q->wpAny (model X.prog X.w) X.A (spliced (backTo pos (starEach es X.env))) (AP X pins σ Q) X.xe s
def PS (X:Cx) (st:Stmt) (t:TS):Prop :=
 ∀ (pins:List (Addr × Obj)) (s:Shared) (σ:St) (H:Hp) (D:Ends),Inv X pins σ H s->t D σ H->wpAny (model X.prog X.w) X.A (exec st X.env) (SP X pins D) X.xe s
def PSs (X:Cx) (st:List Stmt) (t:TS):Prop :=
 ∀ (pins:List (Addr × Obj)) (s:Shared) (σ:St) (H:Hp) (D:Ends),Inv X pins σ H s->t D σ H->wpAny (model X.prog X.w) X.A (execs st X.env) (SP X pins D) X.xe s
theorem thn {α:Type} {t:Sem α} {Q Q':α->Shared->Prop} {M:Model} {A:Around} {E:Value->Shared->Prop} {s:Shared} (h:wpAny M A t Q E s) (hQ:∀ a s,Q a s->Q' a s):wpAny M A t Q' E s:=wpAny_mono h hQ λ_ _ x=>x
end L2

namespace L2
open PySem PySem.Spec PyProof.Rows
section
variable {X:Cx}

def tVar (i:Nat):TE:=λσ H Q=>∃ v,σ[i]?=some (some v)/\Q v H
def tC (v:V):TE:=λ_ H Q=>Q v H
theorem pe_var {i:Nat} {x:Str} {pos:Pos} (hN:X.N[i]?=some x) (hv:Vis X.env.scope x) (hd:(x == ("__debug__":Str))=false:=by decide) (hcd:(x == ("__classdict__":Str))=false:=by decide):PE X (.Name x pos) (tVar i):=by
 intro pins s σ H Q I h
 obtain ⟨v,e,h⟩:=h
 obtain ⟨m,hn,hl⟩:=I.loc
 obtain ⟨u,r,l⟩:=hl i x v hN e hv
 have fin:EP X pins σ Q u s:=⟨v,H,I,r,h⟩
 rcases l with ⟨hk,hm⟩ | ⟨hk,c,hc,hcell⟩
 · exact wpAny_Name (wpAny_loadName_local I.ok.kind hk hn hm fin) hd
 · rcases hk with hk | hk
   · exact wpAny_Name (wpAny_loadName_cell I.ok.kind hk hc hcell fin) hd
   · exact wpAny_Name (wpAny_loadName_free I.ok.kind hk hc hcell fin hcd) hd
theorem pe_int {i j pos}:PE X (.Constant (.int i) j pos) (tC (.int i)):=λ_ _ _ H _ I h=>wpAny_Constant_int ⟨.int i,H,I.tok _,⟨_,rfl⟩,h⟩
theorem pe_bl {b j pos}:PE X (.Constant (.bool b) j pos) (tC (.bl b)):=λ_ _ _ H _ I h=>Constant_bool ⟨.bl b,H,I,rfl,h⟩
theorem pe_non {j pos}:PE X (.Constant .none j pos) (tC .non):=λ_ _ _ H _ I h=>Constant_none ⟨.non,H,I,rfl,h⟩
theorem pe_str {x j pos}:PE X (.Constant (.str x) j pos) (tC (.str x)):=λ_ _ _ H _ I h=>Calls.Constant_str ⟨.str x,H,I.tok _,⟨_,rfl⟩,h⟩

def Gl (X:Cx) (x:Str):Prop:=X.env.kindOf x=some .globalImplicit
theorem ld_glob {E:Value->Shared->Prop} {pins:List (Addr × Obj)} {s:Shared} {σ:St} {H:Hp} {x:Str} {u:Value} {pos:Pos} {Q:Value->Shared->Prop} (I:Inv X pins σ H s) (hg:Gl X x) (hm:X.mg x=some u) (h:Q u s)
   (hd:(x == ("__debug__":Str))=false:=by decide):wpAny (model X.prog X.w) X.A (eval (.Name x pos) X.env) Q E s :=
 Calls.Name_function_global I.ok.kind hg (Calls.loadGlobal_global (by rw [I.ok.glob];exact I.mod.glob.keeps I.bk) hm h) hd
theorem ld_blt {E:Value->Shared->Prop} {pins:List (Addr × Obj)} {s:Shared} {σ:St} {H:Hp} {x:Str} {u:Value} {pos:Pos} {Q:Value->Shared->Prop} (I:Inv X pins σ H s) (hg:Gl X x) (hm:X.mg x=none) (hv:bootBuiltins x=some u) (h:Q u s)
   (hn:x≠"__name__":=by decide) (hd:(x == ("__debug__":Str))=false:=by decide):wpAny (model X.prog X.w) X.A (eval (.Name x pos) X.env) Q E s:=by
 obtain ⟨mb,h1,h2⟩:=I.mod.blt
 exact Calls.Name_function_global I.ok.kind hg (Calls.loadGlobal_builtin (by rw [I.ok.glob];exact I.mod.glob.keeps I.bk) hm (by rw [I.ok.blt];exact h1.keeps I.bk) ((h2 x hn).trans hv) h) hd
theorem pe_glob {x:Str} {v:V} {u:Value} {pos:Pos} (hg:Gl X x) (hm:X.mg x=some u) (r:RelV v u) (hd:(x == ("__debug__":Str))=false:=by decide):PE X (.Name x pos) (tC v) :=
 λ_ _ _ H _ I h=>ld_glob I hg hm ⟨v,H,I,r,h⟩ hd
theorem pe_bltn {x:Str} {v:V} {u:Value} {pos:Pos} (hg:Gl X x) (hm:X.mg x=none) (hv:bootBuiltins x=some u) (r:RelV v u) (hn:x≠"__name__":=by decide) (hd:(x == ("__debug__":Str))=false:=by decide):PE X (.Name x pos) (tC v) :=
 λ_ _ _ H _ I h=>ld_blt I hg hm hv ⟨v,H,I,r,h⟩ hn hd

def t2I (ta tb:TE) (k:Int->Int->Hp->Prop):St->Hp->Prop:=λσ H=>ta σ H λx H1=>tb σ H1 λy H2=>∃ i j,x=.int i/\y=.int j/\k i j H2
def tAdd (ta tb:TE):TE:=λσ H Q=>t2I ta tb (λi j H2=>Q (.int (i+j)) H2) σ H
def tSub (ta tb:TE):TE:=λσ H Q=>t2I ta tb (λi j H2=>Q (.int (i - j)) H2) σ H
def tMul (ta tb:TE):TE:=λσ H Q=>t2I ta tb (λi j H2=>(-(2 ^ 64) < i/\i < 2 ^ 64)/\Q (.int (i * j)) H2) σ H
variable {a b:Expr} {ta tb:TE} {pos:Pos}
def PC (X:Cx) (op:CmpOp) (a b:Expr) (t:TE):Prop :=
 ∀ (pins:List (Addr × Obj)) (s:Shared) (σ:St) (H:Hp) (Q:VK),Inv X pins σ H s->t σ H Q ->
   wpAny (model X.prog X.w) X.A (eval a X.env) (λv s₁=>wpAny (model X.prog X.w) X.A (eval b X.env) (λu s₂=>wpAny (model X.prog X.w) X.A (compareOp op v u) (EP X pins σ Q) X.xe s₂) X.xe s₁) X.xe s
theorem nobehind (b:Expr) {op:CmpOp} (h:op≠.In) (h2:op≠.NotIn):behindInMarks op b=false:=by
 have e1:(op == CmpOp.In)=false:=by cases op<;>first | rfl | exact absurd rfl h
 have e2:(op == CmpOp.NotIn)=false:=by cases op<;>first | rfl | exact absurd rfl h2
 cases b<;>simp [behindInMarks,e1,e2]
def tCmp (p:Int->Int->Bool) (ta tb:TE):TE:=λσ H Q=>t2I ta tb (λi j H2=>Q (.bl (p i j)) H2) σ H
abbrev tLt:TE->TE->TE:=tCmp λi j=>decide (i < j)
abbrev tLe:TE->TE->TE:=tCmp λi j=>decide (i <= j)
abbrev tGt:TE->TE->TE:=tCmp λi j=>decide (j < i)
abbrev tGe:TE->TE->TE:=tCmp λi j=>decide (j <= i)
abbrev tEqI:TE->TE->TE:=tCmp λi j=>decide (i=j)
abbrev tNeI:TE->TE->TE:=tCmp λi j=>!decide (i=j)
def tIsN (ta:TE):TE:=λσ H Q=>ta σ H λx H1=>Q (.bl (decide (x=.non))) H1
def tNotN (ta:TE):TE:=λσ H Q=>ta σ H λx H1=>Q (.bl (!decide (x=.non))) H1
def tB (t:TE):TT:=λσ H Q=>t σ H λx H1=>∃ c,x=.bl c/\Q c H1
theorem pt_cmp {op:CmpOp} {t:TE} (h:PC X op a b t) (h1:behindInMarks op b=false:=by first | exact nobehind _ (by decide) (by decide) | rfl):PT X (.Compare a [op] [b] pos) (tB t):=by
 intro pins s σ H Q I hw
 refine wpAny_isTrue_Compare1 (thn (h pins s σ H _ I hw) λv s1 h1=>thn h1 λu s2 h2=>thn h2 λc s3 ⟨x,H1,I1,r1,q1⟩=>?_) h1
 obtain ⟨d,rfl,q⟩:=q1
 cases r1
 exact wpAny_truthy_bool ⟨H1,I1,q⟩
theorem pt_val {e:Expr} {t:TE} (h:PE X e t) (he:∀ whole,isTrue e X.env whole=(do let v ← whole;standAt e.pos;holding [v] (truthy v)):=by intro _;rfl):PT X e (tB t):=by
 intro pins s σ H Q I hw
 refine isTrue_plain (thn (h pins s σ H _ I hw) λv s1 ⟨x,H1,I1,r1,q1⟩=>?_) (he _)
 obtain ⟨d,rfl,q⟩:=q1
 cases r1
 exact wpAny_truthy_bool ⟨H1,I1,q⟩

variable {tA tB':TT} {rest:List Expr}
def tAnd (t u:TT):TT:=λσ H Q=>t σ H λc H1=>if c=true then u σ H1 Q else Q false H1
def tOr (t u:TT):TT:=λσ H Q=>t σ H λc H1=>if c=true then Q true H1 else u σ H1 Q
def tNot (t:TT):TT:=λσ H Q=>t σ H λc H1=>Q (!c) H1
theorem pw_and1 (ha:PT X a tA):PW X (.BoolOp .And [a] pos) tA:=by
 intro wh pins s σ H Q I h
 refine isTrue_and (thn (ha pins s σ H Q I h) λc s1 e=>?_)
 cases c with
 | true=>exact isTrue_and_nil e
 | false=>exact e
theorem pw_or1 (ha:PT X a tA):PW X (.BoolOp .Or [a] pos) tA:=by
 intro wh pins s σ H Q I h
 refine isTrue_or (thn (ha pins s σ H Q I h) λc s1 e=>?_)
 cases c with
 | false=>exact isTrue_or_nil e
 | true=>exact e
theorem pw_and (ha:PT X a tA) (hb:PW X (.BoolOp .And (b :: rest) pos) tB'):PW X (.BoolOp .And (a :: b :: rest) pos) (tAnd tA tB'):=by
 intro wh pins s σ H Q I h
 refine isTrue_and (thn (ha pins s σ H _ I h) λc s1 ⟨H1,I1,q1⟩=>?_)
 cases c with
 | true=>exact hb wh pins s1 σ H1 Q I1 q1
 | false=>exact ⟨H1,I1,q1⟩
theorem pw_or (ha:PT X a tA) (hb:PW X (.BoolOp .Or (b :: rest) pos) tB'):PW X (.BoolOp .Or (a :: b :: rest) pos) (tOr tA tB'):=by
 intro wh pins s σ H Q I h
 refine isTrue_or (thn (ha pins s σ H _ I h) λc s1 ⟨H1,I1,q1⟩=>?_)
 cases c with
 | true=>exact ⟨H1,I1,q1⟩
 | false=>exact hb wh pins s1 σ H1 Q I1 q1
theorem pt_not (ha:PT X a tA):PT X (.UnaryOp .Not a pos) (tNot tA):=by
 intro pins s σ H Q I h
 exact isTrue_not (ha pins s σ H (λc H1=>Q (!c) H1) I h)
def tAndV (ta tb:TE):TE:=λσ H Q=>ta σ H λx H1=>∃ c,x=.bl c/\if c=true then tb σ H1 Q else Q (.bl false) H1
def tOrV (ta tb:TE):TE:=λσ H Q=>ta σ H λx H1=>∃ c,x=.bl c/\if c=true then Q (.bl true) H1 else tb σ H1 Q
def tNotV (ta:TE):TE:=λσ H Q=>ta σ H λx H1=>∃ c,x=.bl c/\Q (.bl (!c)) H1
theorem pe_one {op} {t:TE} (h:PE X a t):PE X (.BoolOp op [a] pos) t:=λpins s σ H Q I hw=>BoolOp_one (h pins s σ H Q I hw)
theorem pe_and (ha:PE X a ta) (hb:PE X (.BoolOp .And (b :: rest) pos) tb):PE X (.BoolOp .And (a :: b :: rest) pos) (tAndV ta tb):=by
 intro pins s σ H Q I h
 refine BoolOp_and (thn (ha pins s σ H _ I h) λv s1 ⟨x,H1,I1,r1,q1⟩=>?_)
 obtain ⟨c,rfl,q1⟩:=q1
 cases r1
 refine wpAny_truthy_bool ?_
 cases c with
 | true=>exact hb pins s1 σ H1 Q I1 q1
 | false=>exact ⟨.bl false,H1,I1,rfl,q1⟩
theorem pe_not (ha:PE X a ta):PE X (.UnaryOp .Not a pos) (tNotV ta):=by
 intro pins s σ H Q I h
 refine UnaryOp_ (thn (ha pins s σ H _ I h) λv s1 ⟨x,H1,I1,r1,q1⟩=>?_)
 obtain ⟨c,rfl,q1⟩:=q1
 cases r1
 exact not_of (wpAny_truthy_bool ⟨.bl (!c),H1,I1,rfl,q1⟩)
def tIf (t:TT) (ta tb:TE):TE:=λσ H Q=>t σ H λc H1=>if c=true then ta σ H1 Q else tb σ H1 Q
theorem pe_ifExp {c:Expr} (hc:PT X c tA) (ha:PE X a ta) (hb:PE X b tb):PE X (.IfExp c a b pos) (tIf tA ta tb):=by
 intro pins s σ H Q I h
 refine wpAny_IfExp (thn (hc pins s σ H _ I h) λd s1 ⟨H1,I1,q1⟩=>?_)
 cases d with
 | true=>exact ha pins s1 σ H1 Q I1 q1
 | false=>exact hb pins s1 σ H1 Q I1 q1
end
end L2

namespace L2
open PySem PySem.Spec PyProof.Rows

def SqL (K:PySem.W.Frag) (H:Hp) (a:Addr) (xs:List V):Prop :=
 Rd H a (.lst xs) \/
   ∃ (o:Obj) (its:Array Value) (n:Nat),K.lookup a=some o/\o.cls=.type "list"/\o.dict=none/\o.data=.seq its n/\its.size <= sizeLine/\Vals xs its.toList
def SqT (K:PySem.W.Frag) (H:Hp) (a:Addr) (xs:List V):Prop :=
 Rd H a (.tup xs) \/
   ∃ (o:Obj) (its:Array Value) (n:Nat),K.lookup a=some o/\o.cls=.type "tuple"/\o.data=.seq its n/\its.size <= sizeLine/\Vals xs its.toList
def absV:Value->Option V
 | .none=>some .non
 | .bool b=>some (.bl b)
 | .int i _=>some (.int i)
 | .str x _=>some (.str x)
 | .bytes b _=>some (.byt b)
 | .float b _=>some (.flt b)
 | .ref a=>some (.ref a)
 | .type n=>some (.ty n)
 | _=>none
theorem RelV.abs {x:V} {u:Value} (r:RelV x u):absV u=some x:=by
 cases x with
 | non=>cases r;rfl
 | bl _=>cases r;rfl
 | int _=>obtain ⟨t,rfl⟩:=r;rfl
 | str _=>obtain ⟨t,rfl⟩:=r;rfl
 | byt _=>obtain ⟨t,rfl⟩:=r;rfl
 | flt _=>obtain ⟨t,rfl⟩:=r;rfl
 | ref _=>cases r;rfl
 | ty _=>cases r;rfl
theorem RelV.inj {x y:V} {u:Value} (r:RelV x u) (q:RelV y u):x=y:=Option.some.inj (r.abs.symm.trans q.abs)
theorem Vals.inj:∀ {xs ys:List V} {us:List Value},Vals xs us->Vals ys us->xs=ys
 | _,_,_,.nil,.nil=>rfl
 | _,_,_,.cons r t,.cons r' t'=>by rw [r.inj r',Vals.inj t t']
section
variable {X:Cx} {pins:List (Addr × Obj)} {σ:St} {H:Hp} {s:Shared} {a:Addr} {xs ys:List V}
theorem SqL.of {K:PySem.W.Frag} (h:H a=some (.lst xs)):SqL K H a xs:=.inl (.inl h)
theorem SqT.of {K:PySem.W.Frag} (h:H a=some (.tup xs)):SqT K H a xs:=.inl (.inl h)
theorem Inv.list (I:Inv X pins σ H s) (h:SqL X.K H a xs):∃ its:List Value,Vals xs its/\PlainL s.heap a its.toArray/\xs.length <= sizeLine:=by
 rcases h with h | ⟨o,its,n,hk,hc,hd,hs,hz,r⟩
 · obtain ⟨z,its,n,r,e⟩:=h.ok I.hok
   exact ⟨its,r,⟨_,n,e,rfl,rfl,rfl⟩,z⟩
 · refine ⟨its.toList,r,⟨o,n,I.kIn a o hk,hc,hd,by simpa using hs⟩,?_⟩
   have e:=r.length
   simp only [Array.length_toList] at e
   omega
theorem Inv.tuple (I:Inv X pins σ H s) (h:SqT X.K H a xs):∃ its:List Value,Vals xs its/\IsTup s.heap a its.toArray/\xs.length <= sizeLine:=by
 rcases h with h | ⟨o,its,n,hk,hc,hs,hz,r⟩
 · obtain ⟨z,its,r,p⟩:=h.ok I.hok
   exact ⟨its,r,p,z⟩
 · refine ⟨its.toList,r,⟨o,I.kIn a o hk,hc,n,by simpa using hs⟩,?_⟩
   have e:=r.length
   simp only [Array.length_toList] at e
   omega
theorem Inv.list_inj (I:Inv X pins σ H s) (h:SqL X.K H a xs) (h':SqL X.K H a ys):xs=ys:=by
 obtain ⟨its,r,⟨o,n,e,_,_,d⟩,_⟩:=I.list h
 obtain ⟨its',r',⟨o',n',e',_,_,d'⟩,_⟩:=I.list h'
 rw [e] at e';cases e'
 rw [d] at d'
 injection d' with d1 _
 have:its=its':=by simpa using congrArg Array.toList d1
 subst this
 exact r.inj r'
theorem Inv.tuple_inj (I:Inv X pins σ H s) (h:SqT X.K H a xs) (h':SqT X.K H a ys):xs=ys:=by
 obtain ⟨its,r,⟨o,e,_,n,d⟩,_⟩:=I.tuple h
 obtain ⟨its',r',⟨o',e',_,n',d'⟩,_⟩:=I.tuple h'
 rw [e] at e';cases e'
 rw [d] at d'
 injection d' with d1 _
 have:its=its':=by simpa using congrArg Array.toList d1
 subst this
 exact r.inj r'
end

abbrev Cx.wish (X:Cx) (E:Value->Shared->Prop):Cx:={ X with xe:=E }
abbrev Cx.nox (X:Cx):Cx:=X.wish λ_ _=>False
theorem Cx.Ok.wish {X:Cx} (ok:X.Ok) (E:Value->Shared->Prop):(X.wish E).Ok :=
 ⟨ok.mod,ok.kind,ok.glob,ok.blt,ok.above,ok.inj,ok.has,ok.cab,ok.hd,ok.frames,ok.stk,ok.exf,ok.bs,ok.bsz,ok.noex,ok.exfs,ok.funs,ok.frf⟩
theorem Cx.Ok.unwish {X:Cx} {E:Value->Shared->Prop} (ok:(X.wish E).Ok):X.Ok :=
 ⟨ok.mod,ok.kind,ok.glob,ok.blt,ok.above,ok.inj,ok.has,ok.cab,ok.hd,ok.frames,ok.stk,ok.exf,ok.bs,ok.bsz,ok.noex,ok.exfs,ok.funs,ok.frf⟩
section
variable {X:Cx} {pins:List (Addr × Obj)} {σ:St} {H:Hp} {s:Shared} {E:Value->Shared->Prop}
theorem Inv.wish (I:Inv X pins σ H s) (E:Value->Shared->Prop):Inv (X.wish E) pins σ H s:=⟨I.ok.wish E,I.os,I.bare,I.base,I.loc,I.cell,I.free,I.freeC,I.pin,I.hok,I.len⟩
theorem Inv.unwish (I:Inv (X.wish E) pins σ H s):Inv X pins σ H s:=⟨I.ok.unwish,I.os,I.bare,I.base,I.loc,I.cell,I.free,I.freeC,I.pin,I.hok,I.len⟩
theorem SP.unwish {D:Ends} {f:Flow} {s':Shared} (h:SP (X.wish E) pins D f s'):SP X pins D f s':=by
 cases f with
 | next=>obtain ⟨σ',H',I,q⟩:=h;exact ⟨σ',H',I.unwish,q⟩
 | brk=>obtain ⟨σ',H',I,q⟩:=h;exact ⟨σ',H',I.unwish,q⟩
 | cont=>obtain ⟨σ',H',I,q⟩:=h;exact ⟨σ',H',I.unwish,q⟩
 | ret u=>obtain ⟨v,σ',H',I,r,q⟩:=h;exact ⟨v,σ',H',I.unwish,r,q⟩
theorem PE.nox {e:Expr} {t:TE} (h:PE X.nox e t):PE X e t:=λpins s σ H Q I hw =>
 wpAny_mono (h pins s σ H Q (I.wish _) hw) (λ_ _ ⟨v,H',I',r,q⟩=>⟨v,H',I'.unwish,r,q⟩) λ_ _ z=>False.elim z
theorem PT.nox {e:Expr} {t:TT} (h:PT X.nox e t):PT X e t:=λpins s σ H Q I hw =>
 wpAny_mono (h pins s σ H Q (I.wish _) hw) (λ_ _ ⟨H',I',q⟩=>⟨H',I'.unwish,q⟩) λ_ _ z=>False.elim z
theorem PSs.nox {st:List Stmt} {t:TS} (h:PSs X.nox st t):PSs X st t:=λpins s σ H D I hw =>
 wpAny_mono (h pins s σ H D (I.wish _) hw) (λ_ _ q=>q.unwish) λ_ _ z=>False.elim z
end

section
variable {X:Cx} {st:Stmt} {rest:List Stmt} {t u:TS} {e:Expr} {te:TE} {pos:Pos}
def tNext:TS:=λD σ H=>D.nx σ H
def tSeq (t u:TS):TS:=λD σ H=>t { D with nx:=u D } σ H
theorem pss_nil:PSs X [] tNext:=λ_ _ σ H _ I h=>wpAny_execs_nil ⟨σ,H,I,h⟩
theorem pss_cons (h1:PS X st t) (h2:PSs X rest u):PSs X (st :: rest) (tSeq t u):=by
 intro pins s σ H D I h
 refine wpAny_execs_cons (thn (h1 pins s σ H { D with nx:=u D } I h) λf s1 q=>?_)
 cases f with
 | next =>
   obtain ⟨σ',H',I',q⟩:=q
   exact h2 pins s1 σ' H' D I' q
 | ret v=>exact q
 | brk=>exact q
 | cont=>exact q
theorem pss_one (h1:PS X st t):PSs X [st] t:=by
 intro pins s σ H D I h
 refine wpAny_execs_cons (thn (h1 pins s σ H D I h) λf s1 q=>?_)
 cases f with
 | next=>exact wpAny_execs_nil q
 | ret v=>exact q
 | brk=>exact q
 | cont=>exact q
def tBreak:TS:=λD σ H=>D.bk σ H
def tCont:TS:=λD σ H=>D.ct σ H
theorem Inv.quiet {pins:List (Addr × Obj)} {σ:St} {H:Hp} {s:Shared} (I:Inv X pins σ H s):interactive X.env=false:=by simp [interactive,I.ok.kind]
def tDrop (te:TE):TS:=λD σ H=>te σ H λ_ H1=>D.nx σ H1
theorem ps_expr (he:PE X e te) (hs:swapsWith e none pos.line X.env=pure false:=by rfl):PS X (.Expr e pos) (tDrop te):=by
 intro pins s σ H D I h
 exact wpAny_Expr_any (thn (he pins s σ H _ I h) λv s1 ⟨x,H1,I1,r1,q1⟩=>⟨σ,H1,I1,q1⟩) I.quiet hs
def tRet (te:TE):TS:=λD σ H=>te σ H D.rt
theorem ps_ret (he:PE X e te):PS X (.Return (some e) pos) (tRet te):=by
 intro pins s σ H D I h
 exact wpAny_Return_some (thn (he pins s σ H _ I h) λv s1 ⟨x,H1,I1,r1,q1⟩=>⟨x,σ,H1,I1,r1,q1⟩)
def tRetN:TS:=λD _ H=>D.rt .non H
theorem ps_retN:PS X (.Return none pos) tRetN:=λ_ _ σ H _ I h=>wpAny_Return_none ⟨.non,σ,H,I,rfl,h⟩
def tIfS (c:TT) (t u:TS):TS:=λD σ H=>c σ H λb H1=>if b=true then t D σ H1 else u D σ H1
theorem ps_if {c:Expr} {a b:List Stmt} {tc:TT} (hc:PT X c tc) (ha:PSs X a t) (hb:PSs X b u):PS X (.If c a b pos) (tIfS tc t u):=by
 intro pins s σ H D I h
 refine wpAny_If (thn (hc pins s σ H _ I h) λd s1 ⟨H1,I1,q1⟩=>?_)
 cases d with
 | true=>exact ha pins s1 σ H1 D I1 q1
 | false=>exact hb pins s1 σ H1 D I1 q1
def tNever:TS:=λ_ _ _=>False
theorem ps_never:PS X st tNever:=λ_ _ _ _ _ _ h=>h.elim
end

abbrev TG:=V->St->Hp->(St->Hp->Prop)->Prop
abbrev TGs:=List V->St->Hp->(St->Hp->Prop)->Prop
def PG (X:Cx) (target:Expr) (t:TG):Prop :=
 ∀ (pins:List (Addr × Obj)) (s:Shared) (σ:St) (H:Hp) (v:V) (u:Value) (Q:St->Hp->Prop),Inv X pins σ H s->RelV v u->t v σ H Q ->
   wpAny (model X.prog X.w) X.A (assign target X.env u) (λ_ s'=>∃ σ' H',Inv X pins σ' H' s'/\Q σ' H') X.xe s
def PGs (X:Cx) (ts:List Expr) (t:TGs):Prop :=
 ∀ (pins:List (Addr × Obj)) (s:Shared) (σ:St) (H:Hp) (vs:List V) (us:List Value) (Q:St->Hp->Prop),Inv X pins σ H s->Vals vs us->t vs σ H Q ->
   wpAny (model X.prog X.w) X.A (assignInOrder ((assignEach ts X.env).map (·.2)) us) (λ_ s'=>∃ σ' H',Inv X pins σ' H' s'/\Q σ' H') X.xe s
abbrev TSet:=V->V->V->Hp->(Hp->Prop)->Prop
def PSet (X:Cx) (t:TSet):Prop :=
 ∀ (pins:List (Addr × Obj)) (s:Shared) (σ:St) (H:Hp) (o i v:V) (ov iv u:Value) (Q:Hp->Prop),Inv X pins σ H s->RelV o ov->RelV i iv->RelV v u->t o i v H Q ->
   wpAny (model X.prog X.w) X.A (setItem ov iv u) (λ_ s'=>∃ H',Inv X pins σ H' s'/\Q H') X.xe s
abbrev TIp:=V->V->Hp->VK->Prop
def PIp (X:Cx) (op:Operator) (t:TIp):Prop :=
 ∀ (pins:List (Addr × Obj)) (s:Shared) (σ:St) (H:Hp) (x y:V) (v u:Value) (Q:VK),Inv X pins σ H s->RelV x v->RelV y u->t x y H Q ->
   wpAny (model X.prog X.w) X.A (inplaceOp op v u) (EP X pins σ Q) X.xe s
section
variable {X:Cx} {pos:Pos}
def gName (i:Nat):TG:=λv σ H Q=>Q (σ.set i (some v)) H
theorem pg_name {i:Nat} {x:Str} (hN:X.N.Nodup) (hi:X.N[i]?=some x) (hx:Loc X.env.scope x) (hf:X.fn x=true\/X.env.scope.names.lookup x=some .local:=by first | exact .inl rfl | exact .inr rfl | assumption):PG X (.Name x pos) (gName i):=by
 intro pins s σ H v u Q I r h
 exact wpAny_assign_Name (store_ok I hN hi hx r (λs' I'=>⟨_,H,I',h⟩) hf)
def gNil:TGs:=λvs σ H Q=>vs=[]/\Q σ H
def gCons (t:TG) (u:TGs):TGs:=λvs σ H Q=>∃ v r,vs=v :: r/\t v σ H λσ' H'=>u r σ' H' Q
theorem pgs_nil:PGs X [] gNil:=by
 intro pins s σ H vs us Q I r h
 obtain ⟨e,h⟩:=h
 subst e
 cases r
 exact assignInOrder_nil ⟨σ,H,I,h⟩
theorem pgs_cons {e:Expr} {es:List Expr} {t:TG} {u:TGs} (h1:PG X e t) (h2:PGs X es u)
   (hs:(assignEach (e :: es) X.env).map (·.2)=assign e X.env :: (assignEach es X.env).map (·.2):=by rfl):PGs X (e :: es) (gCons t u):=by
 intro pins s σ H vs us Q I r h
 obtain ⟨v,vr,e1,h⟩:=h
 subst e1
 cases r with
 | cons r rr =>
   rw [hs]
   refine assignInOrder_cons (thn (h1 pins s σ H _ _ _ I r h) λ_ s1 ⟨σ1,H1,I1,q1⟩=>?_)
   exact h2 pins s1 σ1 H1 _ _ Q I1 rr q1
def gTup (K:PySem.W.Frag) (n:Nat) (t:TGs):TG:=λv σ H Q=>∃ a xs,v=.ref a/\SqT K H a xs/\xs.length=n/\t xs σ H Q
theorem pg_tup {es:List Expr} {k:Nat} {t:TGs} {n:Nat} (hc:X.calm=true) (h:PGs X es t)
   (hn:(assignEach es X.env).length=n:=by rfl) (hst:(assignEach es X.env).findIdx? (·.1)=none:=by rfl):PG X (.Tuple es k pos) (gTup X.K n t):=by
 intro pins s σ H v u Q I r hw
 obtain ⟨a,xs,e1,hq,hl,hw⟩:=hw
 subst e1
 cases r
 obtain ⟨its,rv,ht,hz⟩:=I.tuple hq
 refine assign_Tuple_tuple (I.ok.hd hc) ht (by simp [hn,← hl,rv.length]) hst λh' hx=>?_
 have I1:Inv X pins σ H { s with heap:=h' }:=I.kept (t':=s.toks) λb o e=>hx b o (Nat.ne_of_lt (Heap.lt_size e)) e
 exact h pins _ σ H xs _ Q I1 (by simpa using rv) hw
def gSub (to ti:TE) (t:TSet):TG:=λv σ H Q=>to σ H λo H1=>ti σ H1 λi H2=>t o i v H2 λH3=>Q σ H3
theorem pg_sub {o i:Expr} {to ti:TE} {t:TSet} (ho:PE X o to) (hi:PE X i ti) (hs:PSet X t)
   (ha:∀ v,assign (.Subscript o i pos) X.env v=(do
     let ov ← holding [v] (eval o X.env)
     let iv ← holding [v,ov] (eval i X.env)
     standAt pos
     holding [v,ov,iv] (setItem ov iv v)
     release [v,ov,iv] []):=by intro _;rfl):PG X (.Subscript o i pos) (gSub to ti t):=by
 intro pins s σ H v u Q I r h
 rw [ha]
 refine wpAny_bind (wpAny_holding (thn (ho pins s σ H _ I h) λov s1 ⟨x,H1,I1,r1,q1⟩=>?_))
 refine wpAny_bind (wpAny_holding (thn (hi pins s1 σ H1 _ I1 q1) λiv s2 ⟨y,H2,I2,r2,q2⟩=>?_))
 refine wpAny_bind (wpAny_standAt (wpAny_bind (wpAny_holding (thn (hs pins s2 σ H2 x y v ov iv u _ I2 r1 r2 r q2) λ_ s3 ⟨H3,I3,q3⟩=>?_))))
 exact wpAny_release ⟨σ,H3,I3,q3⟩
def tAsg (te:TE) (g:TG):TS:=λD σ H=>te σ H λx H1=>g x σ H1 D.nx
theorem ps_asg {tg e:Expr} {te:TE} {g:TG} (he:PE X e te) (hg:PG X tg g) (hs:swapsWithSole [tg] e pos.line X.env=pure false:=by rfl) (hw:swappedStores [tg] e X.env=pure none:=by rfl)
   (h1:(assignEach [tg] X.env).map (·.2)=[assign tg X.env]:=by rfl):PS X (.Assign [tg] e pos) (tAsg te g):=by
 intro pins s σ H D I h
 refine wpAny_Assign_stores (thn (he pins s σ H _ I h) λv s1 ⟨x,H1,I1,r1,q1⟩=>?_) hs hw
 rw [h1]
 exact thn (hg pins s1 σ H1 x v _ I1 r1 q1) λ_ s2 q=>q
theorem ps_set {i:Nat} {x:Str} {e:Expr} {te:TE} {pos':Pos} (hN:X.N.Nodup) (hi:X.N[i]?=some x) (hx:Loc X.env.scope x) (he:PE X e te) (hs:swapsWith e (some (.Name x pos')) pos.line X.env=pure false:=by rfl) (hf:X.fn x=true\/X.env.scope.names.lookup x=some .local:=by first | exact .inl rfl | exact .inr rfl | assumption) :
   PS X (.Assign [.Name x pos'] e pos) (tAsg te (gName i)):=by
 intro pins s σ H D I h
 refine wpAny_Assign_Name (thn (he pins s σ H _ I h) λv s1 ⟨y,H1,I1,r1,q1⟩=>?_) hs
 exact store_ok I1 hN hi hx r1 (λs2 I2=>⟨_,H1,I2,q1⟩) hf
def tPar (i j:Nat) (ta:TA):TS:=λD σ H=>ta σ H λvs H1=>∃ v w,vs=[v,w]/\D.nx ((σ.set i (some v)).set j (some w)) H1
def tAug (i:Nat) (te:TE) (ti:TIp):TS:=λD σ H=>∃ x,σ[i]?=some (some x)/\te σ H λy H1=>ti x y H1 λz H2=>D.nx (σ.set i (some z)) H2
def tAugS (to ti te:TE) (tget:V->V->Hp->VK->Prop) (tip:TIp) (tset:TSet):TS:=λD σ H=>to σ H λo H1=>ti σ H1 λi H2=>tget o i H2 λx H3=>te σ H3 λy H4=>tip x y H4 λz H5=>tset o i z H5 λH6=>D.nx σ H6
def PGet (X:Cx) (t:V->V->Hp->VK->Prop):Prop :=
 ∀ (pins:List (Addr × Obj)) (s:Shared) (σ:St) (H:Hp) (o i:V) (ov iv:Value) (Q:VK),Inv X pins σ H s->RelV o ov->RelV i iv->t o i H Q ->
   wpAny (model X.prog X.w) X.A (getItem ov iv) (EP X pins σ Q) X.xe s
def ipI (f:Int->Int->Int):TIp:=λx y H Q=>∃ i j,x=.int i/\y=.int j/\Q (.int (f i j)) H
end

section
variable {X:Cx} {pos:Pos}
def tWhile (c:TT) (tb:TS):TS:=λD σ H=>∃ W:Nat->St->Hp->Prop,(∃ m,W m σ H)/\∀ m σ H,W m σ H ->
 c σ H λb H1=>if b=true then ∃ N:St->Hp->Prop,(∀ σ' H',N σ' H'->∃ m',m' < m/\W m' σ' H')/\tb { D with nx:=N,ct:=N,bk:=D.nx } σ H1 else D.nx σ H1
theorem ps_while {c:Expr} {body:List Stmt} {tc:TT} {tb:TS} (hp:PassesOwn (model X.prog X.w) X.A X.env X.xe) (hc:PT X c tc) (hb:PSs X body tb):PS X (.While c body [] pos) (tWhile tc tb):=by
 intro pins s σ H D I h
 obtain ⟨W,⟨m0,w0⟩,turn⟩:=h
 refine wpAny_While (codeAny_whileLoop (λn s'=>∃ σ' H',Inv X pins σ' H' s'/\W n σ' H') ?_ m0 ⟨σ,H,I,w0⟩)
 rintro n s1 ⟨σ1,H1,I1,w1⟩
 refine wpAny_passesOwn hp (thn (hc pins s1 σ1 H1 _ I1 (turn n σ1 H1 w1)) λb s2 ⟨H2,I2,q2⟩=>?_)
 cases b with
 | true =>
   obtain ⟨N,hN,q2⟩:=q2
   rw [if_pos rfl]
   refine wpAny_passesOwn hp (thn (hb pins s2 σ1 H2 _ I2 q2) λf s3 q3=>?_)
   cases f with
   | next =>
     obtain ⟨σ3,H3,I3,n3⟩:=q3
     obtain ⟨m',hm,w3⟩:=hN σ3 H3 n3
     exact ⟨m',hm,σ3,H3,I3,w3⟩
   | cont =>
     obtain ⟨σ3,H3,I3,n3⟩:=q3
     obtain ⟨m',hm,w3⟩:=hN σ3 H3 n3
     exact ⟨m',hm,σ3,H3,I3,w3⟩
   | brk=>exact q3
   | ret v=>exact q3
 | false =>
   rw [if_neg Bool.false_ne_true]
   exact wpAny_execs_nil ⟨σ1,H2,I2,q2⟩
end

structure It where
 go:Nat->Hp->Prop
 yld:Nat->Hp->V->Hp->Prop
 stop:Nat->Hp->Prop
def FpOk (X:Cx) (pins:List (Addr × Obj)) (H:Hp) (b:Addr):Prop :=
 H b=none/\b≠X.env.locals/\b ∉ X.fs/\(b∈X.ex\/X.s₀.heap.objs.size <= b)/\(∀ x c,X.env.cells.lookup x=some c->c≠b)/\∀ p∈X.pn++pins,p.1≠b
theorem Inv.fpOk {X:Cx} {pins:List (Addr × Obj)} {σ:St} {H H':Hp} {s:Shared} {b:Addr} (I:Inv X pins σ H s) (hb:s.heap.objs.size <= b) (hn:H' b=none):FpOk X pins H' b:=by
 refine ⟨hn,Nat.ne_of_gt (Nat.lt_of_lt_of_le I.lt hb),I.nofs hb,.inr (Nat.le_trans I.sz hb),λx c e z=>?_,λp hp z=>?_⟩
 · obtain ⟨v,q⟩:=I.cell x c e
   exact absurd (Nat.lt_of_lt_of_le q.lt (by rw [z];exact hb)) (Nat.lt_irrefl _)
 · exact absurd (Nat.lt_of_lt_of_le (Heap.lt_size (I.pin p hp).1) (by rw [z];exact hb)) (Nat.lt_irrefl _)
structure Turn (P:Program) (w:World) (K:PySem.W.Frag) (tg:Expr) (J:It) (fp:List Addr) (it:Addr) (tn:Nat->Heap->Prop):Prop where
 mem:it∈fp
 obj:∀ i h,tn i h->∀ b∈fp,∃ o,h.get? b=some o/\∀ v,o.data≠.cell v
 keep:∀ i h h',tn i h->(∀ b∈fp,∀ o,h.get? b=some o->h'.get? b=some o)->tn i h'
 item:∀ (X:Cx),X.prog=P->X.w=w->X.K=K->X.calm=true->∀ (i:Nat) (pins:List (Addr × Obj)) (s:Shared) (σ:St) (H:Hp) (E:Value->Shared->Prop),Inv X pins σ H s->(∀ b∈fp,FpOk X pins H b)->tn i s.heap->J.go i H ->
   wpAny (model P w) X.A (pyNext (.ref it)) (λr s1=>∃ u,r=some u /\
     wpAny (model P w) X.A (letOwnedTupleGo tg (.ref it) u) (λ_ s2=>∃ x H',Inv X pins σ H' s2/\RelV x u/\J.yld i H x H'/\tn (i+1) s2.heap/\∀ b∈fp,H' b=none) E s1) E s
 done:∀ (X:Cx),X.prog=P->X.w=w->X.K=K->X.calm=true->∀ (i:Nat) (pins:List (Addr × Obj)) (s:Shared) (σ:St) (H:Hp) (E:Value->Shared->Prop),Inv X pins σ H s->(∀ b∈fp,FpOk X pins H b)->tn i s.heap->J.stop i H ->
   wpAny (model P w) X.A (pyNext (.ref it)) (λr s1=>r=none/\Inv X pins σ H s1) E s
 self:∀ (A:Around) (i:Nat) (s:Shared) (Q:Value->Shared->Prop) (E:Value->Shared->Prop),tn i s.heap->Q (.ref it) s->wpAny (model P w) A (pyIter (.ref it)) Q E s
abbrev TI:=St->Hp->(It->Hp->Prop)->Prop
def PIE (X:Cx) (pins:List (Addr × Obj)) (σ:St) (tg:Expr) (R:It->Hp->Prop) (itv:Value) (s2:Shared):Prop :=
 ∃ (it:Addr) (fp:List Addr) (tn:Nat->Heap->Prop) (J:It) (H':Hp),itv=.ref it/\Inv X pins σ H' s2/\Turn X.prog X.w X.K tg J fp it tn/\tn 0 s2.heap/\(∀ b∈fp,FpOk X pins H' b)/\R J H'
def PI (X:Cx) (tg iter:Expr) (wi:TI):Prop :=
 ∀ (pins:List (Addr × Obj)) (s:Shared) (σ:St) (H:Hp) (R:It->Hp->Prop),Inv X pins σ H s->wi σ H R ->
   wpAny (model X.prog X.w) X.A (eval iter X.env) (λv s1=>wpAny (model X.prog X.w) X.A (pyIter v) (PIE X pins σ tg R) X.xe s1) X.xe s

theorem go_of {M:Model} {A:Around} {E:Value->Shared->Prop} {s:Shared} {tg:Expr} {it:Addr} {u:Value} {o:Obj} {n:String} {vs:Array Value} {Q:Unit->Shared->Prop} (ho:s.heap.get? it=some o) (hc:o.cls=.type n) (hd:o.data=.fields vs)
   (hn:["enumerate","zip","dict_itemiterator","dict_reverseitemiterator","odict_iterator","itertools.zip_longest","itertools.pairwise"].contains n=false) (hQ:Q () s):wpAny M A (letOwnedTupleGo tg (.ref it) u) Q E s:=by
 unfold letOwnedTupleGo
 cases tg<;>first
   | exact wpAny_pure hQ
   | (cases u<;>first
       | exact wpAny_pure hQ
       | (refine wpAny_bind (wpAny_load ho ?_)
          rw [hc,hd]
          show wpAny M A (if (["enumerate","zip","dict_itemiterator","dict_reverseitemiterator","odict_iterator","itertools.zip_longest","itertools.pairwise"].contains n && vs[0]? == some (rawInt _))=true then _ else _) Q E s
          rw [if_neg (by intro h;rw [hn,Bool.false_and] at h;cases h)]
          exact wpAny_pure hQ))

def Itl (K:PySem.W.Frag) (a:Addr):It :=
 ⟨λi H=>∃ xs x,SqL K H a xs/\xs[i]?=some x,λi H x H'=>H'=H/\∀ xs,SqL K H a xs->xs[i]?=some x,λi H=>∃ xs,SqL K H a xs/\xs.length <= i⟩
def Itt (K:PySem.W.Frag) (a:Addr):It :=
 ⟨λi H=>∃ xs x,SqT K H a xs/\xs[i]?=some x,λi H x H'=>H'=H/\∀ xs,SqT K H a xs->xs[i]?=some x,λi H=>∃ xs,SqT K H a xs/\xs.length <= i⟩
def Itr (lo:Int) (n:Nat):It:=⟨λi _=>i < n,λi H x H'=>H'=H/\x=.int (lo+i),λi _=>n <= i⟩
theorem turn_list {P:Program} {w:World} {K:PySem.W.Frag} {tg:Expr} (a it:Addr):Turn P w K tg (Itl K a) [it] it (λi h=>h.IsListIter it a i) where
 mem:=by simp
 obj:=λi h st b hb=>by
   have e:b=it:=by simpa using hb
   subst e
   obtain ⟨o,e,c,d⟩:=st
   exact ⟨o,e,λv z=>by rw [d] at z;cases z⟩
 keep:=λi h h' st k=>st.at λo e=>k it (by simp) o e
 item:=by
   intro X hP hw hK hc i pins s σ H E I hf st hg
   subst hP hw hK
   obtain ⟨xs,x,hq,hx⟩:=hg
   obtain ⟨its,rv,p,hz⟩:=I.list hq
   obtain ⟨u,hu,ru⟩:=rv.get hx
   obtain ⟨f0,f1,f2,f3,f4,f5⟩:=hf it (by simp)
   refine wpAny_pyNext_list_item st p.isList (x:=u) (by simpa using hu) λh' st' sb=>?_
   have I1:Inv X pins σ H { s with heap:=h' }:=I.turned (t':=s.toks) (λb o hb e=>(sb.2 b hb).trans e) f0 f1 f3 f4 f5
   obtain ⟨o,e,c,d⟩:=id st'
   exact ⟨u,rfl,go_of (s:={ s with heap:=h' }) e c d (by decide) ⟨x,H,I1,ru,⟨rfl,λys hy=>by rw [I.list_inj hy hq];exact hx⟩,st',λb hb=>(hf b hb).1⟩⟩
 done:=by
   intro X hP hw hK hc i pins s σ H E I hf st hg
   subst hP hw hK
   obtain ⟨xs,hq,hx⟩:=hg
   obtain ⟨its,rv,p,hz⟩:=I.list hq
   obtain ⟨f0,f1,f2,f3,f4,f5⟩:=hf it (by simp)
   have hl:=rv.length
   exact wpAny_pyNext_list_end (I.ok.hd hc) st p.isList (by simp;omega) λh' eb=>⟨rfl,I.turned (t':=s.toks) (λb o hb e=>eb b o hb e) f0 f1 f3 f4 f5⟩
 self:=λ_ _ _ _ _ st h=>wpAny_pyIter_listiter st h
theorem turn_range {P:Program} {w:World} {K:PySem.W.Frag} {tg:Expr} (it:Addr) (lo:Int) (n:Nat):Turn P w K tg (Itr lo n) [it] it (λi h=>IsRangeIter h it (lo+(i:Nat) * 1) ((n:Int) - (i:Nat)) 1) where
 mem:=by simp
 obj:=λi h st b hb=>by
   have e:b=it:=by simpa using hb
   subst e
   exact ⟨_,st,λv z=>by
     have z':Data.fields _=Data.cell v:=z
     cases z'⟩
 keep:=λi h h' st k=>k it (by simp) _ st
 item:=by
   intro X hP hw hK hc i pins s σ H E I hf st hg
   subst hP hw hK
   obtain ⟨f0,f1,f2,f3,f4,f5⟩:=hf it (by simp)
   have W:=Walks.range (prog:=X.prog) (w:=X.w) (I.ok.hd hc) it lo 1 n
   refine W.item i s _ _ hg st λv h' tk hv st' kk=>?_
   obtain ⟨t,rfl⟩:=hv
   have I1:Inv X pins σ H { s with heap:=h',toks:=tk }:=I.turned (λb o hb e=>kk b o (by simpa using hb) e) f0 f1 f3 f4 f5
   refine ⟨_,rfl,go_of (s:={ s with heap:=h',toks:=tk }) (n:="range_iterator") st' rfl rfl (by decide) ⟨.int (lo+i),H,I1,⟨t,?_⟩,⟨rfl,rfl⟩,st',λb hb=>(hf b hb).1⟩⟩
   rw [Int.mul_one]
 done:=by
   intro X hP hw hK hc i pins s σ H E I hf st hg
   subst hP hw hK
   obtain ⟨f0,f1,f2,f3,f4,f5⟩:=hf it (by simp)
   exact wpAny_pyNext_range_end (I.ok.hd hc) st (by have:n <= i:=hg;omega) λh' eb=>⟨rfl,I.turned (t':=s.toks) (λb o hb e=>eb b o hb e) f0 f1 f3 f4 f5⟩
 self:=λ_ _ _ _ _ st h=>wpAny_pyIter_rangeiter st h
end L2

namespace L2
open PySem PySem.Spec PyProof.Rows
section
variable {X:Cx} {tg:Expr}
def iList (K:PySem.W.Frag) (tl:TE):TI:=λσ H R=>tl σ H λx H1=>∃ a,x=.ref a/\(∃ xs,SqL K H1 a xs)/\R (Itl K a) H1
def iTup (K:PySem.W.Frag) (tl:TE):TI:=λσ H R=>tl σ H λx H1=>∃ a,x=.ref a/\(∃ xs,SqT K H1 a xs)/\R (Itt K a) H1
theorem pi_list {l:Expr} {tl:TE} (hl:PE X l tl):PI X tg l (iList X.K tl):=by
 intro pins s σ H R I h
 refine thn (hl pins s σ H _ I h) λv s1 ⟨x,H1,I1,r1,q1⟩=>?_
 obtain ⟨a,e,⟨xs,hq⟩,q⟩:=q1
 subst e
 cases r1
 obtain ⟨its,rv,p,hz⟩:=I1.list hq
 refine wpAny_pyIter_list p.isList ?_
 refine ⟨s1.heap.objs.size,[s1.heap.objs.size],_,_,H1,rfl,I1.kept (t':=s1.toks) λb o e=>Heap.get?_push_of_some _ e,turn_list a _,⟨_,Heap.get?_push_size _ rfl,rfl,rfl⟩,λb hb=>?_,q⟩
 have e:b=s1.heap.objs.size:=by simpa using hb
 subst e
 exact I1.fpOk (Nat.le_refl _) (I1.hok.fresh (Nat.le_refl _))
theorem range_it {pins:List (Addr × Obj)} {σ:St} {H:Hp} {s:Shared} {R:It->Hp->Prop} {E:Value->Shared->Prop} {lo hi:Int} {t u v:Tok} {tk:Nat} (I:Inv X pins σ H s) (h1:-(2 ^ 62) <= lo) (h2:lo < 2 ^ 62) (h3:-(2 ^ 62) <= hi) (h4:hi < 2 ^ 62)
   (q:R (Itr lo (hi - lo).toNat) H):wpAny (model X.prog X.w) X.A (pyIter (.ref s.heap.objs.size)) (PIE X pins σ tg R) E { s with heap:=s.heap.push { cls:=.type "range",data:=.fields #[.int lo t,.int hi u,.int 1 v] },toks:=tk }:=by
 refine wpAny_pyIter_range (IsRange.new ..) (small_one h1 h2 h3 h4) ?_
 have I1:Inv X pins σ H { s with heap:=s.heap.push { cls:=.type "range",data:=.fields #[.int lo t,.int hi u,.int 1 v] },toks:=tk }:=I.kept λb o e=>Heap.get?_push_of_some _ e
 refine ⟨(s.heap.push { cls:=.type "range",data:=.fields #[.int lo t,.int hi u,.int 1 v] }).objs.size,[(s.heap.push { cls:=.type "range",data:=.fields #[.int lo t,.int hi u,.int 1 v] }).objs.size],_,_,H,rfl,
   I1.kept (t':=tk) λb o e=>Heap.get?_push_of_some _ e,turn_range _ lo (hi - lo).toNat,?_,λb hb=>?_,q⟩
 · have e1:lo+((0:Nat):Int) * 1=lo:=by simp
   have e2:(((hi - lo).toNat:Nat):Int) - ((0:Nat):Int)=Builtin.Range.rangeSize lo hi 1:=by rw [rangeSize_one];split<;>omega
   show IsRangeIter _ _ (lo+((0:Nat):Int) * 1) ((((hi - lo).toNat:Nat):Int) - ((0:Nat):Int)) 1
   rw [e1,e2]
   exact Heap.get?_push_size _ rfl
 · have e:b=(s.heap.push { cls:=.type "range",data:=.fields #[.int lo t,.int hi u,.int 1 v] }).objs.size:=by simpa using hb
   subst e
   exact I1.fpOk (Nat.le_refl _) (I1.hok.fresh (Nat.le_refl _))
def iRng1 (ta:TA):TI:=λσ H R=>ta σ H λvs H1=>∃ j:Int,vs=[.int j]/\-(2 ^ 62) <= j/\j < 2 ^ 62/\R (Itr 0 j.toNat) H1
def iRng2 (ta:TA):TI:=λσ H R=>ta σ H λvs H1=>∃ i j:Int,vs=[.int i,.int j]/\(-(2 ^ 62) <= i/\i < 2 ^ 62/\-(2 ^ 62) <= j/\j < 2 ^ 62)/\R (Itr i (j - i).toNat) H1
theorem pi_range1 {a:Expr} {ta:TA} {p pos:Pos} (hg:Gl X "range") (hm:X.mg "range"=none) (ha:PA X [a] ta) (hs:starEach [a] X.env=[(false,eval a X.env)]:=by rfl):PI X tg (.Call (.Name "range" p) [a] [] pos) (iRng1 ta):=by
 intro pins s σ H R I h
 refine Call_ (ld_blt I hg hm boot_range (PyProof.Rows.callWith_type1 (thn (ha pos pins s σ H _ I h) λus s1 ⟨vs,H1,I1,r1,q1⟩=>?_) hs rfl))
 obtain ⟨j,e,q1,q2,q⟩:=q1
 subst e
 cases r1 with
 | cons r rr =>
   cases rr
   obtain ⟨t,rfl⟩:=r
   exact call_range_1 (range_it I1 (by omega) (by omega) q1 q2 (by simpa using q))
def tFor (wi:TI) (g:TG) (tb:TS):TS:=λD σ H=>wi σ H λJ H1=>∃ W:Nat->Nat->St->Hp->Prop,(∃ m,W 0 m σ H1)/\∀ i m σ H,W i m σ H ->
 (J.stop i H/\D.nx σ H)\/(J.go i H/\∃ N:St->Hp->Prop,(∀ σ' H',N σ' H'->∃ m',m' < m/\W (i+1) m' σ' H')/\∀ x H',J.yld i H x H'->g x σ H' λσ2 H2=>tb { D with nx:=N,ct:=N,bk:=D.nx } σ2 H2)
def pinsAt (fp:List Addr) (h:Heap):List (Addr × Obj):=fp.filterMap λb=>(h.get? b).map λo=>(b,o)
theorem mem_pinsAt {fp:List Addr} {h:Heap} {b:Addr} {o:Obj} (hb:b∈fp) (e:h.get? b=some o):(b,o)∈pinsAt fp h:=List.mem_filterMap.mpr ⟨b,hb,by rw [e];rfl⟩
theorem of_pinsAt {fp:List Addr} {h:Heap} {p:Addr × Obj} (hp:p∈pinsAt fp h):p.1∈fp/\h.get? p.1=some p.2:=by
 obtain ⟨b,hb,e⟩:=List.mem_filterMap.mp hp
 cases q:h.get? b with
 | none=>rw [q] at e;cases e
 | some o =>
   rw [q] at e
   have e':(b,o)=p:=Option.some.inj e
   subst e'
   exact ⟨hb,q⟩
theorem Inv.pinned {pins:List (Addr × Obj)} {σ:St} {H:Hp} {s:Shared} {fp:List Addr} (I:Inv X pins σ H s) (hf:∀ b∈fp,FpOk X pins H b) (ho:∀ b∈fp,∃ o,s.heap.get? b=some o/\∀ v,o.data≠.cell v):Inv X (pins++pinsAt fp s.heap) σ H s :=
 I.pins_of λp hp=>(List.mem_append.mp hp).elim (λz=>I.pin p (List.mem_append_right _ z)) λz=>by
   obtain ⟨hb,e⟩:=of_pinsAt z
   obtain ⟨f0,f1,f2,_⟩:=hf p.1 hb
   obtain ⟨o,e',d⟩:=ho p.1 hb
   rw [e] at e';cases e'
   exact ⟨e,f0,f1,f2,d⟩
theorem Inv.unpinned {pins pl:List (Addr × Obj)} {σ:St} {H:Hp} {s:Shared} (I:Inv X (pins++pl) σ H s):Inv X pins σ H s:=I.pins_of λp hp=>I.pin p (List.mem_append_right _ (List.mem_append_left _ hp))
theorem ps_for {iter:Expr} {body:List Stmt} {wi:TI} {g:TG} {tb:TS} {pos:Pos} (hp:PassesOwn (model X.prog X.w) X.A X.env X.xe) (hc:X.calm=true) (hi:PI X tg iter wi) (hg:PG X tg g) (hb:PSs X body tb)
   (hs:∀ x,foldedSetIterable iter X.env x=pure x:=by intro _;rfl):PS X (.For tg iter body [] pos) (tFor wi g tb):=by
 intro pins s σ H D I h
 refine wpAny_For (thn (hi pins s σ H _ I h) λv s1 h1=>thn h1 λitv s2 h2=>?_) hs
 obtain ⟨it,fp,tn,J,H2,e,I2,T,st2,f2,W,⟨m0,w0⟩,turn⟩:=h2
 subst e
 have stat:∀ {H':Hp},(∀ b∈fp,H' b=none)->∀ b∈fp,FpOk X pins H' b:=λhn b hb=>⟨hn b hb,(f2 b hb).2⟩
 refine codeAny_forLoop_any (λn s'=>∃ i σ' H',Inv X pins σ' H' s'/\tn i s'.heap/\(∀ b∈fp,H' b=none)/\W i n σ' H') ?_ m0 ⟨0,σ,H2,I2,st2,λb hb=>(f2 b hb).1,w0⟩
 rintro n s3 ⟨i,σ3,H3,I3,st3,fr3,w3⟩
 rcases turn i n σ3 H3 w3 with ⟨stop,qn⟩ | ⟨go,N,hN,step⟩
 · refine wpAny_passesOwn hp (thn (T.done X rfl rfl rfl hc i pins s3 σ3 H3 X.xe I3 (stat fr3) st3 stop) λr s4 ⟨hr,I4⟩=>?_)
   subst hr
   exact wpAny_execs_nil ⟨σ3,H3,I4,qn⟩
 · refine wpAny_passesOwn hp (thn (T.item X rfl rfl rfl hc i pins s3 σ3 H3 X.xe I3 (stat fr3) st3 go) λr s4 ⟨u,hr,h4⟩=>?_)
   subst hr
   refine wpAny_passesOwn hp (thn h4 λ_ s5 ⟨x,H5,I5,r5,y5,st5,fr5⟩=>?_)
   have I5':=I5.pinned (stat fr5) (T.obj _ _ st5)
   refine wpAny_passesOwn hp (thn (hg _ s5 σ3 H5 x u _ I5' r5 (step x H5 y5)) λ_ s6 ⟨σ6,H6,I6,q6⟩=>?_)
   refine wpAny_passesOwn hp (thn (hb _ s6 σ6 H6 _ I6 q6) λf s7 q7=>?_)
   have again:∀ {σ7:St} {H7:Hp},Inv X (pins++pinsAt fp s5.heap) σ7 H7 s7->N σ7 H7->∃ m,m < n/\∃ i σ' H',Inv X pins σ' H' s7/\tn i s7.heap/\(∀ b∈fp,H' b=none)/\W i m σ' H':=λ{σ7 H7} I7 n7=>by
     obtain ⟨m',hm,w7⟩:=hN σ7 H7 n7
     refine ⟨m',hm,i+1,σ7,H7,I7.unpinned,T.keep _ _ _ st5 λb hb o e=>(I7.pin (b,o) (List.mem_append_right _ (List.mem_append_right _ (mem_pinsAt hb e)))).1,λb hb=>?_,w7⟩
     obtain ⟨o,e,d⟩:=T.obj _ _ st5 b hb
     exact (I7.pin (b,o) (List.mem_append_right _ (List.mem_append_right _ (mem_pinsAt hb e)))).2.1
   cases f with
   | next=>obtain ⟨σ7,H7,I7,n7⟩:=q7;exact again I7 n7
   | cont=>obtain ⟨σ7,H7,I7,n7⟩:=q7;exact again I7 n7
   | brk=>obtain ⟨σ7,H7,I7,q7⟩:=q7;exact ⟨σ7,H7,I7.unpinned,q7⟩
   | ret v=>obtain ⟨x7,σ7,H7,I7,r7,q7⟩:=q7;exact ⟨x7,σ7,H7,I7.unpinned,r7,q7⟩
end

theorem for_list {K:PySem.W.Frag} {a:Addr} {xs:List V} {g:TG} {tb:TS} {D:Ends} {σ:St} {H:Hp} (Pv:Nat->St->Hp->Prop) (h0:Pv 0 σ H) (hl:∀ i σ H,i <= xs.length->Pv i σ H->SqL K H a xs)
   (hs:∀ i x σ H,xs[i]?=some x->Pv i σ H->g x σ H λσ2 H2=>tb { D with nx:=Pv (i+1),ct:=Pv (i+1),bk:=D.nx } σ2 H2) (hd:∀ σ H,Pv xs.length σ H->D.nx σ H) :
   ∃ W:Nat->Nat->St->Hp->Prop,(∃ m,W 0 m σ H)/\∀ i m σ H,W i m σ H ->
     ((Itl K a).stop i H/\D.nx σ H)\/((Itl K a).go i H/\∃ N:St->Hp->Prop,(∀ σ' H',N σ' H'->∃ m',m' < m/\W (i+1) m' σ' H')/\∀ x H',(Itl K a).yld i H x H'->g x σ H' λσ2 H2=>tb { D with nx:=N,ct:=N,bk:=D.nx } σ2 H2):=by
 refine ⟨λi m σ H=>m=xs.length - i/\i <= xs.length/\Pv i σ H,⟨xs.length,by simp,Nat.zero_le _,h0⟩,?_⟩
 rintro i m σ H ⟨rfl,hi,p⟩
 have q:=hl i σ H hi p
 by_cases hlt:i < xs.length
 · refine .inr ⟨⟨xs,xs[i],q,by simp [hlt]⟩,Pv (i+1),λσ' H' p'=>⟨xs.length - (i+1),by omega,rfl,hlt,p'⟩,λx H' y=>?_⟩
   obtain ⟨e,y⟩:=y
   subst e
   exact hs i x σ _ (y xs q) p
 · have e:i=xs.length:=by omega
   subst e
   exact .inl ⟨⟨xs,q,Nat.le_refl _⟩,hd σ H p⟩
theorem for_range {lo:Int} {n:Nat} {g:TG} {tb:TS} {D:Ends} {σ:St} {H:Hp} (Pv:Nat->St->Hp->Prop) (h0:Pv 0 σ H)
   (hs:∀ i σ H,i < n->Pv i σ H->g (.int (lo+i)) σ H λσ2 H2=>tb { D with nx:=Pv (i+1),ct:=Pv (i+1),bk:=D.nx } σ2 H2) (hd:∀ σ H,Pv n σ H->D.nx σ H) :
   ∃ W:Nat->Nat->St->Hp->Prop,(∃ m,W 0 m σ H)/\∀ i m σ H,W i m σ H ->
     ((Itr lo n).stop i H/\D.nx σ H)\/((Itr lo n).go i H/\∃ N:St->Hp->Prop,(∀ σ' H',N σ' H'->∃ m',m' < m/\W (i+1) m' σ' H')/\∀ x H',(Itr lo n).yld i H x H'->g x σ H' λσ2 H2=>tb { D with nx:=N,ct:=N,bk:=D.nx } σ2 H2):=by
 refine ⟨λi m σ H=>m=n - i/\i <= n/\Pv i σ H,⟨n,by simp,Nat.zero_le _,h0⟩,?_⟩
 rintro i m σ H ⟨rfl,hi,p⟩
 by_cases hlt:i < n
 · refine .inr ⟨hlt,Pv (i+1),λσ' H' p'=>⟨n - (i+1),by omega,rfl,hlt,p'⟩,λx H' y=>?_⟩
   obtain ⟨e,y⟩:=y
   subst e y
   exact hs i σ _ hlt p
 · have e:i=n:=by omega
   subst e
   exact .inl ⟨Nat.le_refl _,hd σ H p⟩
end L2

namespace L2
open PySem PySem.Spec PyProof.Rows

abbrev R2:=V->V->Hp->VK->Prop
def OpR (X:Cx) (f:Value->Value->Sem Value) (r:R2):Prop :=
 ∀ (pins:List (Addr × Obj)) (s:Shared) (σ:St) (H:Hp) (x y:V) (v u:Value) (Q:VK),Inv X pins σ H s->RelV x v->RelV y u->r x y H Q ->
   wpAny (model X.prog X.w) X.A (f v u) (EP X pins σ Q) X.xe s
def UnR (X:Cx) (f:Value->Sem Value) (r:V->Hp->VK->Prop):Prop :=
 ∀ (pins:List (Addr × Obj)) (s:Shared) (σ:St) (H:Hp) (x:V) (v:Value) (Q:VK),Inv X pins σ H s->RelV x v->r x H Q ->
   wpAny (model X.prog X.w) X.A (f v) (EP X pins σ Q) X.xe s
def CallR (X:Cx) (f:Value) (r:List V->Hp->VK->Prop):Prop :=
 ∀ (pins:List (Addr × Obj)) (s:Shared) (σ:St) (H:Hp) (xs:List V) (us:List Value) (Q:VK),Inv X pins σ H s->Vals xs us->r xs H Q ->
   wpAny (model X.prog X.w) X.A (call f us) (EP X pins σ Q) X.xe s
def TruR (X:Cx) (r:V->Hp->(Bool->Hp->Prop)->Prop):Prop :=
 ∀ (pins:List (Addr × Obj)) (s:Shared) (σ:St) (H:Hp) (x:V) (v:Value) (Q:Bool->Hp->Prop),Inv X pins σ H s->RelV x v->r x H Q ->
   wpAny (model X.prog X.w) X.A (truthy v) (TP X pins σ Q) X.xe s

def tOp (r:R2) (ta tb:TE):TE:=λσ H Q=>ta σ H λx H1=>tb σ H1 λy H2=>r x y H2 Q
def tUn (r:V->Hp->VK->Prop) (ta:TE):TE:=λσ H Q=>ta σ H λx H1=>r x H1 Q
def rI (C:Int->Int->Prop) (g:Int->Int->V):R2:=λx y H Q=>∃ i j,x=.int i/\y=.int j/\C i j/\Q (g i j) H
def rI0 (g:Int->Int->V):R2:=λx y H Q=>∃ i j,x=.int i/\y=.int j/\Q (g i j) H
def rU (g:Int->V):V->Hp->VK->Prop:=λx H Q=>∃ i,x=.int i/\Q (g i) H

section
variable {X:Cx} {a b c:Expr} {ta tb tc:TE} {pos:Pos}

theorem binT (ha:PE X a ta) (hb:PE X b tb) {pins:List (Addr × Obj)} {s:Shared} {σ:St} {H:Hp} {R:V->V->Hp->Prop} (I:Inv X pins σ H s)
   (h:ta σ H λx H1=>tb σ H1 λy H2=>R x y H2) {Q:Value->Shared->Prop} {f:Value->Value->Sem Value}
   (hf:∀ v u s2 x y H2,Inv X pins σ H2 s2->RelV x v->RelV y u->R x y H2->wpAny (model X.prog X.w) X.A (f v u) Q X.xe s2) :
   wpAny (model X.prog X.w) X.A (eval a X.env) (λv s₁=>wpAny (model X.prog X.w) X.A (eval b X.env) (λu s₂=>wpAny (model X.prog X.w) X.A (f v u) Q X.xe s₂) X.xe s₁) X.xe s:=by
 refine thn (ha pins s σ H _ I h) λv s1 ⟨x,H1,I1,r1,q1⟩=>?_
 refine thn (hb pins s1 σ H1 _ I1 q1) λu s2 ⟨y,H2,I2,r2,q2⟩=>?_
 exact hf v u s2 x y H2 I2 r1 r2 q2

theorem pe_op {op:Operator} {r:R2} (ho:OpR X (binaryOp op) r) (ha:PE X a ta) (hb:PE X b tb):PE X (.BinOp a op b pos) (tOp r ta tb):=by
 intro pins s σ H Q I h
 exact wpAny_BinOp (binT ha hb I h λv u s2 x y H2 I2 rx ry q=>ho pins s2 σ H2 x y v u Q I2 rx ry q)
theorem pe_un {op:UnaryOp} {r:V->Hp->VK->Prop} (ho:UnR X (unaryOp op) r) (ha:PE X a ta):PE X (.UnaryOp op a pos) (tUn r ta):=by
 intro pins s σ H Q I h
 exact UnaryOp_ (thn (ha pins s σ H _ I h) λv s1 ⟨x,H1,I1,r1,q1⟩=>ho pins s1 σ H1 x v Q I1 r1 q1)
theorem opI {f:Value->Value->Sem Value} {C:Int->Int->Prop} {g:Int->Int->Int}
   (rule:∀ (i j:Int) (t u:Tok) (s:Shared) (Q:Value->Shared->Prop) (E:Value->Shared->Prop),C i j->Q (.int (g i j) s.toks) { s with toks:=s.toks+1 }->wpAny (model X.prog X.w) X.A (f (.int i t) (.int j u)) Q E s) :
   OpR X f (rI C λi j=>.int (g i j)):=by
 intro pins s σ H x y v u Q I rx ry h
 obtain ⟨i,j,rfl,rfl,hc,q⟩:=h
 obtain ⟨t,rfl⟩:=rx
 obtain ⟨t',rfl⟩:=ry
 exact rule i j t t' s _ _ hc ⟨.int (g i j),H,I.tok _,⟨_,rfl⟩,q⟩
theorem opI0 {f:Value->Value->Sem Value} {g:Int->Int->Int}
   (rule:∀ (i j:Int) (t u:Tok) (s:Shared) (Q:Value->Shared->Prop) (E:Value->Shared->Prop),Q (.int (g i j) s.toks) { s with toks:=s.toks+1 }->wpAny (model X.prog X.w) X.A (f (.int i t) (.int j u)) Q E s) :
   OpR X f (rI0 λi j=>.int (g i j)):=by
 intro pins s σ H x y v u Q I rx ry h
 obtain ⟨i,j,rfl,rfl,q⟩:=h
 obtain ⟨t,rfl⟩:=rx
 obtain ⟨t',rfl⟩:=ry
 exact rule i j t t' s _ _ ⟨.int (g i j),H,I.tok _,⟨_,rfl⟩,q⟩
theorem opB0 {f:Value->Value->Sem Value} {g:Int->Int->Bool}
   (rule:∀ (i j:Int) (t u:Tok) (s:Shared) (Q:Value->Shared->Prop) (E:Value->Shared->Prop),Q (.bool (g i j)) s->wpAny (model X.prog X.w) X.A (f (.int i t) (.int j u)) Q E s) :
   OpR X f (rI0 λi j=>.bl (g i j)):=by
 intro pins s σ H x y v u Q I rx ry h
 obtain ⟨i,j,rfl,rfl,q⟩:=h
 obtain ⟨t,rfl⟩:=rx
 obtain ⟨t',rfl⟩:=ry
 exact rule i j t t' s _ _ ⟨.bl (g i j),H,I,rfl,q⟩

def CDiv (i j:Int):Prop:=0 < j/\j < 1073741824
def CDivN (i j:Int):Prop:=j≠0/\j.natAbs < 1073741824
def CPow (i j:Int):Prop:=0 <= j/\j <= 1000000/\i.natAbs < 2 ^ 64
def CMul (i j:Int):Prop:=(-(2 ^ 64) < i/\i < 2 ^ 64)\/(-(2 ^ 64) < j/\j < 2 ^ 64)
theorem CMul.ok {i j:Int} (h:CMul i j):IntMulOk i j:=by
 rcases h with ⟨h1,h2⟩ | ⟨h1,h2⟩
 · exact .of_left (intBits_le_64 h1 h2)
 · exact .of_right (intBits_le_64 h1 h2)
theorem op_add:OpR X (binaryOp .Add) (rI0 λi j=>.int (i+j)):=opI0 λ_ _ _ _ _ _ _ q=>add_int q
theorem op_sub:OpR X (binaryOp .Sub) (rI0 λi j=>.int (i - j)):=opI0 λ_ _ _ _ _ _ _ q=>sub_int q
theorem op_mul:OpR X (binaryOp .Mult) (rI CMul λi j=>.int (i * j)):=opI λ_ _ _ _ _ _ _ hc q=>mul_int q hc.ok
theorem op_mod:OpR X (binaryOp .Mod) (rI (λ_ j=>0 < j) λi j=>.int (i % j)):=opI λi j _ _ _ _ _ hc q=>by
 have h1:(0:Int) < j:=hc
 exact mod_int' (by omega) (by rw [Int.fmod_eq_emod_of_nonneg i (by omega)];exact q)
theorem op_pow:OpR X (binaryOp .Pow) (rI CPow λi j=>.int (i ^ j.toNat)):=opI λ_ _ _ _ _ _ _ hc q=>pow_int_small hc.1 hc.2.1 hc.2.2 q
theorem unI {f:Value->Sem Value} {g:Int->Int}
   (rule:∀ (i:Int) (t:Tok) (s:Shared) (Q:Value->Shared->Prop) (E:Value->Shared->Prop),Q (.int (g i) s.toks) { s with toks:=s.toks+1 }->wpAny (model X.prog X.w) X.A (f (.int i t)) Q E s) :
   UnR X f (rU λi=>.int (g i)):=by
 intro pins s σ H x v Q I rx h
 obtain ⟨i,rfl,q⟩:=h
 obtain ⟨t,rfl⟩:=rx
 exact rule i t s _ _ ⟨.int (g i),H,I.tok _,⟨_,rfl⟩,q⟩
theorem un_neg:UnR X (unaryOp .USub) (rU λi=>.int (-i)):=unI λ_ _ _ _ _ q=>neg_int q
end

def scal:V->V->Bool
 | .non,.non=>true | .non,.int _=>true | .int _,.non=>true | .non,.bl _=>true | .bl _,.non=>true | .non,.str _=>true | .str _,.non=>true
 | .int _,.int _=>true | .bl _,.bl _=>true | .str _,.str _=>true | .byt _,.byt _=>true
 | .int _,.str _=>true | .str _,.int _=>true | .bl _,.str _=>true | .str _,.bl _=>true
 | _,_=>false
def rEq:R2:=λx y H Q=>scal x y=true/\Q (.bl (decide (x=y))) H
def rNe:R2:=λx y H Q=>scal x y=true/\Q (.bl (!decide (x=y))) H

theorem dec_int {i j:Int}:decide (V.int i=V.int j)=(i == j):=by
 rw [Bool.eq_iff_iff]
 simp
theorem dec_bl {i j:Bool}:decide (V.bl i=V.bl j)=(i == j):=by
 rw [Bool.eq_iff_iff]
 simp
theorem dec_str {i j:Str}:decide (V.str i=V.str j)=(i == j):=by
 rw [Bool.eq_iff_iff]
 simp
theorem dec_byt {i j:Array UInt8}:decide (V.byt i=V.byt j)=(i.toList == j.toList):=by
 rw [Bool.eq_iff_iff]
 cases i
 cases j
 simp

section
variable {X:Cx} {a b c:Expr} {ta tb tc:TE} {pos:Pos}
theorem fin_bl {pins:List (Addr × Obj)} {σ:St} {H:Hp} {s:Shared} {Q:VK} {k k':Bool} (I:Inv X pins σ H s) (q:Q (.bl k) H) (e:k=k'):EP X pins σ Q (.bool k') s:=by
 subst e
 exact ⟨.bl k,H,I,rfl,q⟩
theorem op_eq:OpR X (compareOp .Eq) rEq:=by
 intro pins s σ H x y v u Q I rx ry h
 obtain ⟨hs,q⟩:=h
 cases x with
 | non =>
   cases rx
   cases y with
   | non=>cases ry;exact PySem.EqNone.eq_none_none (fin_bl I q (by simp))
   | bl j=>cases ry;exact PySem.EqNone.eq_none_bool (fin_bl I q (by simp))
   | int j=>obtain ⟨t',rfl⟩:=ry;exact PySem.EqNone.eq_none_int (fin_bl I q (by simp))
   | str j=>obtain ⟨t',rfl⟩:=ry;exact PySem.EqNone.eq_none_str (fin_bl I q (by simp))
   | _=>exact absurd (show false=true from hs) Bool.false_ne_true
 | bl i =>
   cases rx
   cases y with
   | non=>cases ry;exact PySem.EqNone.eq_bool_none (fin_bl I q (by simp))
   | bl j=>cases ry;exact eq_bool (fin_bl I q dec_bl)
   | str j=>obtain ⟨t',rfl⟩:=ry;exact PySem.EqMixed.eq_bool_str (fin_bl I q (by simp))
   | _=>exact absurd (show false=true from hs) Bool.false_ne_true
 | int i =>
   obtain ⟨t,rfl⟩:=rx
   cases y with
   | non=>cases ry;exact PySem.EqNone.eq_int_none (fin_bl I q (by simp))
   | int j=>obtain ⟨t',rfl⟩:=ry;exact eq_int (fin_bl I q dec_int)
   | str j=>obtain ⟨t',rfl⟩:=ry;exact PySem.EqMixed.eq_int_str (fin_bl I q (by simp))
   | _=>exact absurd (show false=true from hs) Bool.false_ne_true
 | str i =>
   obtain ⟨t,rfl⟩:=rx
   cases y with
   | non=>cases ry;exact PySem.EqNone.eq_str_none (fin_bl I q (by simp))
   | bl j=>cases ry;exact PySem.EqMixed.eq_str_bool (fin_bl I q (by simp))
   | int j=>obtain ⟨t',rfl⟩:=ry;exact PySem.EqMixed.eq_str_int (fin_bl I q (by simp))
   | str j=>obtain ⟨t',rfl⟩:=ry;exact eq_str (fin_bl I q dec_str)
   | _=>exact absurd (show false=true from hs) Bool.false_ne_true
 | byt i =>
   obtain ⟨t,rfl⟩:=rx
   cases y with
   | byt j=>obtain ⟨t',rfl⟩:=ry;exact PySem.W.eq_bytes (fin_bl I q dec_byt)
   | _=>exact absurd (show false=true from hs) Bool.false_ne_true
 | _=>cases y<;>exact absurd (show false=true from hs) Bool.false_ne_true
theorem op_ne:OpR X (compareOp .NotEq) rNe:=by
 intro pins s σ H x y v u Q I rx ry h
 obtain ⟨hs,q⟩:=h
 cases x with
 | non =>
   cases rx
   cases y with
   | non=>cases ry;exact PySem.EqNone.ne_none_none (fin_bl I q (by simp))
   | bl j=>cases ry;exact PySem.EqNone.ne_none_bool (fin_bl I q (by simp))
   | int j=>obtain ⟨t',rfl⟩:=ry;exact PySem.EqNone.ne_none_int (fin_bl I q (by simp))
   | str j=>obtain ⟨t',rfl⟩:=ry;exact PySem.EqNone.ne_none_str (fin_bl I q (by simp))
   | _=>exact absurd (show false=true from hs) Bool.false_ne_true
 | bl i =>
   cases rx
   cases y with
   | non=>cases ry;exact PySem.EqNone.ne_bool_none (fin_bl I q (by simp))
   | bl j=>cases ry;exact ne_bool (fin_bl I q (congrArg not dec_bl))
   | str j=>obtain ⟨t',rfl⟩:=ry;exact PySem.EqMixed.ne_bool_str (fin_bl I q (by simp))
   | _=>exact absurd (show false=true from hs) Bool.false_ne_true
 | int i =>
   obtain ⟨t,rfl⟩:=rx
   cases y with
   | non=>cases ry;exact PySem.EqNone.ne_int_none (fin_bl I q (by simp))
   | int j=>obtain ⟨t',rfl⟩:=ry;exact ne_int (fin_bl I q (congrArg not dec_int))
   | str j=>obtain ⟨t',rfl⟩:=ry;exact PySem.EqMixed.ne_int_str (fin_bl I q (by simp))
   | _=>exact absurd (show false=true from hs) Bool.false_ne_true
 | str i =>
   obtain ⟨t,rfl⟩:=rx
   cases y with
   | non=>cases ry;exact PySem.EqNone.ne_str_none (fin_bl I q (by simp))
   | bl j=>cases ry;exact PySem.EqMixed.ne_str_bool (fin_bl I q (by simp))
   | int j=>obtain ⟨t',rfl⟩:=ry;exact PySem.EqMixed.ne_str_int (fin_bl I q (by simp))
   | str j=>obtain ⟨t',rfl⟩:=ry;exact ne_str (fin_bl I q (congrArg not dec_str))
   | _=>exact absurd (show false=true from hs) Bool.false_ne_true
 | byt i =>
   obtain ⟨t,rfl⟩:=rx
   cases y with
   | byt j=>obtain ⟨t',rfl⟩:=ry;exact PySem.W.ne_bytes (fin_bl I q (congrArg not dec_byt))
   | _=>exact absurd (show false=true from hs) Bool.false_ne_true
 | _=>cases y<;>exact absurd (show false=true from hs) Bool.false_ne_true

theorem op_lt:OpR X (compareOp .Lt) (rI0 λi j=>.bl (decide (i < j))):=opB0 λ_ _ _ _ _ _ _ q=>lt_int q
theorem op_le:OpR X (compareOp .LtE) (rI0 λi j=>.bl (decide (i <= j))):=opB0 λ_ _ _ _ _ _ _ q=>le_int q
theorem op_gt:OpR X (compareOp .Gt) (rI0 λi j=>.bl (decide (j < i))):=opB0 λ_ _ _ _ _ _ _ q=>gt_int q
theorem op_isN:OpR X (compareOp .Is) (λx y H Q=>y=.non/\Q (.bl (decide (x=.non))) H):=by
 intro pins s σ H x y v u Q I rx ry h
 obtain ⟨rfl,q⟩:=h
 cases ry
 refine is_none_gen (fin_bl I q ?_)
 cases x<;>first
   | (cases rx;rfl)
   | (obtain ⟨t,rfl⟩:=rx;rfl)
theorem op_notN:OpR X (compareOp .IsNot) (λx y H Q=>y=.non/\Q (.bl (!decide (x=.non))) H):=by
 intro pins s σ H x y v u Q I rx ry h
 obtain ⟨rfl,q⟩:=h
 cases ry
 refine isnot_none_gen (fin_bl I q ?_)
 cases x<;>first
   | (cases rx;rfl)
   | (obtain ⟨t,rfl⟩:=rx;rfl)

def isObj:HO->Bool
 | .lst _=>true
 | .ins _ _ _=>true
 | _=>false
theorem OpR.or {f:Value->Value->Sem Value} {r r':R2} (h:OpR X f r) (h':OpR X f r'):OpR X f (λx y H Q=>r x y H Q\/r' x y H Q):=by
 intro pins s σ H x y v u Q I rx ry q
 rcases q with q | q
 · exact h pins s σ H x y v u Q I rx ry q
 · exact h' pins s σ H x y v u Q I rx ry q

theorem nomark (b:Expr) {op:CmpOp} (h:op≠.In:=by decide) (h2:op≠.NotIn:=by decide):behindInMarks op b=false:=by
 have e1:(op == CmpOp.In)=false:=by cases op<;>first | rfl | exact absurd rfl h
 have e2:(op == CmpOp.NotIn)=false:=by cases op<;>first | rfl | exact absurd rfl h2
 cases b<;>simp [behindInMarks,e1,e2]
theorem pe_cmpR {op:CmpOp} {r:R2} (ho:OpR X (compareOp op) r) (ha:PE X a ta) (hb:PE X b tb) (hm:behindInMarks op b=false):PE X (.Compare a [op] [b] pos) (tOp r ta tb):=by
 intro pins s σ H Q I h
 exact wpAny_Compare1 (binT ha hb I h λv u s2 x y H2 I2 rx ry q=>ho pins s2 σ H2 x y v u Q I2 rx ry q) hm
def tTest (t:TE):TT:=λσ H Q=>t σ H λx H'=>∃ k,x=.bl k/\Q k H'
theorem pt_cmpR {op:CmpOp} {r:R2} (ho:OpR X (compareOp op) r) (ha:PE X a ta) (hb:PE X b tb) (hm:behindInMarks op b=false):PT X (.Compare a [op] [b] pos) (tTest (tOp r ta tb)):=by
 intro pins s σ H Q I h
 refine wpAny_isTrue_Compare1 (thn (ha pins s σ H _ I h) λv s1 ⟨x,H1,I1,r1,q1⟩=>thn (hb pins s1 σ H1 _ I1 q1) λu s2 ⟨y,H2,I2,r2,q2⟩ =>
   thn (ho pins s2 σ H2 x y v u _ I2 r1 r2 q2) λc s3 ⟨z,H3,I3,r3,k,e,q3⟩=>?_) hm
 subst e
 cases r3
 exact wpAny_truthy_bool ⟨H3,I3,q3⟩
def tChain (r r':R2) (ta tb tc:TE):TE:=λσ H Q=>ta σ H λx H1=>tb σ H1 λy H2=>r x y H2 λz H3=>∃ k,z=.bl k /\
 (if k=true then tc σ H3 λw' H4=>r' y w' H4 Q else Q (.bl false) H3)
theorem pe_chain {op op':CmpOp} {r r':R2} (ho:OpR X (compareOp op) r) (ho':OpR X (compareOp op') r') (ha:PE X a ta) (hb:PE X b tb) (hc:PE X c tc)
   (hm:lastMarks [op,op'] [b,c]=false:=by with_unfolding_all rfl):PE X (.Compare a [op,op'] [b,c] pos) (tChain r r' ta tb tc):=by
 intro pins s σ H Q I h
 refine Compare_chain (thn (ha pins s σ H _ I h) λv s1 ⟨x,H1,I1,r1,q1⟩=>chain_link (thn (hb pins s1 σ H1 _ I1 q1) λu s2 ⟨y,H2,I2,r2,q2⟩ =>
   thn (ho pins s2 σ H2 x y v u _ I2 r1 r2 q2) λd s3 ⟨z,H3,I3,r3,k,e,q3⟩=>?_)) hm
 subst e
 cases r3
 refine wpAny_truthy_bool ?_
 cases k with
 | false=>exact ite_ff ⟨.bl false,H3,I3,rfl,q3⟩
 | true=>exact ite_tt (chain_last (thn (hc pins s3 σ H3 _ I3 q3) λw' s4 ⟨z',H4,I4,r4,q4⟩=>ho' pins s4 σ H4 y z' u w' Q I4 r2 r4 q4))
def TruV (K:PySem.W.Frag) (x:V) (H:Hp) (k:Bool):Prop :=
 match x with
 | .non=>k=false
 | .bl b=>k=b
 | .int i=>k=(i != 0)
 | .str y=>y.length <= sizeLine/\k=((y.length:Int) != 0)
 | .byt y=>y.size <= sizeLine/\k=((y.size:Int) != 0)
 | .ref p=>(∃ xs,SqL K H p xs/\k=!xs.isEmpty)\/(∃ xs,SqT K H p xs/\k=!xs.isEmpty)\/∃ kvs,H p=some (.dK kvs)/\k=!kvs.isEmpty
 | _=>False
theorem isEmpty_kv {κ:Type} {kvs:List (κ × V)} {vs:List (κ × Value)} (r:KV kvs vs):(!vs.isEmpty)=!kvs.isEmpty:=by
 cases r<;>rfl
theorem isEmpty_of {xs:List V} {its:List Value} (r:Vals xs its):(!its.toArray.isEmpty)=!xs.isEmpty:=by
 cases r<;>simp
theorem line63:(sizeLine:Nat) < 2 ^ 63:=by rw [sizeLine_eq];decide
theorem tru_ok:TruR X (λx H Q=>∃ k,TruV X.K x H k/\Q k H):=by
 intro pins s σ H x v Q I rx h
 obtain ⟨k,e,q⟩:=h
 have hl:=line63
 have hs:sizeLine=16777216:=sizeLine_eq
 cases x with
 | non =>
   cases rx
   have e':k=false:=e
   subst e'
   exact truthy_none ⟨H,I,q⟩
 | bl b =>
   cases rx
   have e':k=b:=e
   subst e'
   exact wpAny_truthy_bool ⟨H,I,q⟩
 | int i =>
   obtain ⟨t,rfl⟩:=rx
   have e':k=(i != 0):=e
   subst e'
   exact PySem.P.truthy_int ⟨H,I,q⟩
 | str y =>
   obtain ⟨t,rfl⟩:=rx
   obtain ⟨hy,e'⟩:y.length <= sizeLine/\k=((y.length:Int) != 0):=e
   subst e'
   exact PySem.P.truthy_str (by omega) ⟨H,I.tok _,q⟩
 | byt y =>
   obtain ⟨t,rfl⟩:=rx
   obtain ⟨hy,e'⟩:y.size <= sizeLine/\k=((y.size:Int) != 0):=e
   subst e'
   exact PySem.W.truthy_bytes (by omega) ⟨H,I.tok _,q⟩
 | ref p =>
   cases rx
   have e':(∃ xs,SqL X.K H p xs/\k=!xs.isEmpty)\/(∃ xs,SqT X.K H p xs/\k=!xs.isEmpty)\/∃ kvs,H p=some (.dK kvs)/\k=!kvs.isEmpty:=e
   rcases e' with ⟨xs,hx,e'⟩ | ⟨xs,hx,e'⟩ | ⟨kvs,hx,e'⟩
   · subst e'
     obtain ⟨its,r,pl,hz⟩:=I.list hx
     have hlen:=r.length
     exact wpAny_truthy_list pl.isList (by simp only [List.size_toArray];omega) ⟨H,I.tok _,by rw [isEmpty_of r];exact q⟩
   · subst e'
     obtain ⟨its,r,pl,hz⟩:=I.tuple hx
     have hlen:=r.length
     exact truthy_tuple pl (by simp only [List.size_toArray];omega) ⟨H,I.tok _,by rw [isEmpty_of r];exact q⟩
   · subst e'
     obtain ⟨hz,hS,vs,r,m⟩:kvs.length <= sizeLine/\(p == sysModules)=false/\∃ vs,KV kvs vs/\s.heap.DictOf (mixKind X.prog X.w) p vs:=I.hok p _ hx
     have hlen:kvs.length=vs.length:=Paired.length r
     exact wpAny_truthy_dict hS m (by omega) ⟨H,I.tok _,by rw [isEmpty_kv r];exact q⟩
 | _=>exact (show False from e).elim
theorem pt_truth (ha:PE X a ta) (he:∀ whole,isTrue a X.env whole=(do let v ← whole;standAt a.pos;holding [v] (truthy v))) :
   PT X a (λσ H Q=>ta σ H λx H'=>∃ k,TruV X.K x H' k/\Q k H'):=by
 intro pins s σ H Q I h
 exact isTrue_plain (thn (ha pins s σ H _ I h) λv s1 ⟨x,H1,I1,r1,q1⟩=>tru_ok pins s1 σ H1 x v Q I1 r1 q1) (he _)

def PlainIxT (b:Expr):Prop:=∀ o i,subscripted b false o i=operate [o,i] (getItem o i)
theorem vals1 {x:V} {us:List Value} (r:Vals [x] us):∃ u,us=[u]/\RelV x u:=by
 cases r with
 | cons r1 r2=>cases r2;exact ⟨_,rfl,r1⟩
theorem vals2 {x y:V} {us:List Value} (r:Vals [x,y] us):∃ u w',us=[u,w']/\RelV x u/\RelV y w':=by
 cases r with
 | cons r1 r2 =>
   cases r2 with
   | cons r3 r4=>cases r4;exact ⟨_,_,rfl,r1,r3⟩
theorem call_int1:CallR X (.type "int") (λxs H Q=>(∃ i,xs=[.int i]/\Q (.int i) H)\/∃ k,xs=[.bl k]/\Q (.int (if k then 1 else 0)) H):=by
 intro pins s σ H xs us Q I r h
 rcases h with ⟨i,rfl,q⟩ | ⟨k,rfl,q⟩
 · obtain ⟨u,rfl,t,rfl⟩:=vals1 r
   exact call_int_int ⟨.int i,H,I,⟨_,rfl⟩,q⟩
 · obtain ⟨u,rfl,r1⟩:=vals1 r
   cases r1
   exact call_int_bool ⟨.int (if k then 1 else 0),H,I.tok _,⟨_,rfl⟩,q⟩
def LenV (K:PySem.W.Frag) (x:V) (H:Hp) (n:Nat):Prop :=
 match x with
 | .str y=>y.length <= sizeLine/\n=y.length
 | .byt y=>y.size <= sizeLine/\n=y.size
 | .ref p=>(∃ xs,SqL K H p xs/\n=xs.length)\/∃ xs,SqT K H p xs/\n=xs.length
 | _=>False
end
end L2

namespace L2
open PySem PySem.Spec PyProof.Rows

structure ObjM (h:Heap) (x dx C:Addr) (mA:Str->Option Value):Prop where
 obj:h.get? x=some (PySem.W.instObj C dx)
 ns:h.Ns1 dx mA
 ne:dx≠x

theorem lookIn_ns {h:Heap} {dx:Addr} {mA:Str->Option Value} (n:h.Ns1 dx mA):∃ od,h.get? dx=some od/\∀ name,PySem.W.lookIn name od=some (mA name):=by
 obtain ⟨o,es,ep,ho,hd,hk,_,hm⟩:=n
 refine ⟨o,ho,λname=>?_⟩
 have e:=hm name
 unfold nsFind findBy at e
 rw [← Array.find?_toList] at e
 unfold PySem.W.lookIn
 rw [hd]
 dsimp only
 split
 · rename_i y q
   rw [q] at e
   exact congrArg some e
 · rename_i q
   rw [q] at e
   have a:es.toList.any (·.refKey)=false:=by
     rw [List.any_eq_false]
     intro y hy
     obtain ⟨z,t,hkey⟩:=hk y (Array.mem_toList_iff.mp hy)
     simp [DictEntry.refKey,hkey]
   have a':¬ es.toList.any (·.refKey)=true:=by rw [a];exact Bool.false_ne_true
   rw [if_neg a']
   exact congrArg some e

theorem ObjM.look {h:Heap} {x dx C:Addr} {mA:Str->Option Value} (I:ObjM h x dx C mA):∃ od,PySem.W.InstAt h x (PySem.W.instObj C dx) C (some od)/\∀ name,PySem.W.lookIn name od=some (mA name) :=
 let ⟨od,ho,hl⟩:=lookIn_ns I.ns
 ⟨od,⟨I.obj,rfl,rfl,ho⟩,hl⟩

section
variable {prog:Program} {w:World} {A:Around} {E:Value->Shared->Prop} {s:Shared} {K:PySem.W.Frag} {x dx C f:Addr} {mA:Str->Option Value} {name:Str} {v:Value}

theorem get_map {expr:Bool} {Q:Value->Shared->Prop} (X:K.In s.heap) (I:ObjM s.heap x dx C mA) (hg:PySem.W.plainGet K C name=true) (hh:PySem.W.hasDictIn K C=true)
   (ha:PySem.W.findIn K (.ref C) name=some none) (hv:mA name=some v) (hv':PySem.W.handedIn v=true) (h:Q v { s with toks:=s.toks+1 }) :
   wpAny (model prog w) A (getAttr (.ref x) name expr) Q E s:=by
 obtain ⟨od,J,hl⟩:=I.look
 exact PySem.W.get_value X J (PySem.W.plainGet_of hg).1 (PySem.W.findObj_own hh ha rfl (by rw [hl,hv])) hv' h

theorem get_meth {pl:Sem Bool} {Q:Value × List Value->Shared->Prop} (X:K.In s.heap) (I:ObjM s.heap x dx C mA) (hg:PySem.W.plainGet K C name=true)
   (hf:PySem.W.findIn K (.ref C) name=some (some (.ref f))) (ht:PySem.W.isFn K (.ref f)=true) (hv:mA name=none) (h:Q (.ref f,[.ref x]) s) :
   wpAny (model prog w) A (getMethod (.ref x) name pl) Q E s:=by
 obtain ⟨od,J,hl⟩:=I.look
 exact PySem.W.method_fn X J (PySem.W.plainGet_of hg).1 (PySem.W.plainGet_of hg).2 hf (beq_iff_eq.mp ht) (by show (PySem.W.lookIn name od).map (·.isSome)=some false;rw [hl,hv];rfl) h

theorem set_map {ns:List Str} {Q:Unit->Shared->Prop} (X:K.In s.heap) (I:ObjM s.heap x dx C mA)
   (hs:PySem.W.findIn K (.ref C) "__setattr__"=some (some (.builtin "object.__setattr__"))) (hp:PySem.W.plainOver K C=true) (ht:PySem.W.takerIn K C name=some none) (hh:PySem.W.hasDictIn K C=true)
   (hw:PySem.Within mA ns) (hsz:ns.length <= sizeLine)
   (h:∀ h',ObjM h' x dx C (λy=>if y=name then some v else mA y)->Heap.SameBut dx s.heap h'->Q () { s with heap:=h',toks:=s.toks+2 }) :
   wpAny (model prog w) A (setAttr (.ref x) name v) Q E s:=by
 obtain ⟨od,J,hl⟩:=I.look
 refine PySem.W.set_plain X J hs (PySem.W.osa_open (s:={ s with toks:=s.toks+1 }) (r:=none) X J hp ht λb=>?_)
 obtain ⟨cd,hc,hd'⟩:=PySem.W.any_some hh
 have hx:s.heap.get? x=some ⟨.ref C,some dx,.plain,#[]⟩:=I.obj
 refine wpAny_bind (wpAny_pure (wpAny_bind (wpAny_bind (wpAny_loadPart hx (wpAny_bind (PySem.W.Looks.here (s:={ s with toks:=s.toks+1 }) (PySem.W.looks_clsIn X hc) ?_))))))
 rw [hd']
 refine wpAny_pure (a:=some dx) (wpAny_bind (wpAny_pure (wpAny_bind ?_)))
 refine wpAny_nsSet1 (s:={ s with toks:=s.toks+1 }) I.ns λh' hn2 hs2=>?_
 obtain ⟨oD,esD,epD,hoD,hdD,hcD⟩:=hn2.count (PySem.Within.cons name v hw)
 refine wpAny_bind (wpAny_lookBehind hoD (by rw [hdD];exact pastItsLine_dict (Nat.le_trans hcD (by rw [List.length_cons];omega))) ?_)
 exact wpAny_pure (h _ ⟨(hs2.2 _ (Ne.symm I.ne)).trans I.obj,hn2,I.ne⟩ hs2)

theorem make_map {R:Result->Shared->Prop} {vs:List Value} {kw:List (Str × Value)} (X:K.In s.heap) (hm:PySem.W.makesIn K C=true)
   (hi:PySem.W.findIn K (.ref C) "__init__"=some (some (.ref f))) (hf:PySem.W.typeIn K (.ref f)=some (.type "function"))
   (h:codeAny (model prog w) (A.under (.builtin "type.__call__" ⟨.ref C :: vs,kw⟩)) (.call (.ref f) ⟨.ref (s.heap.objs.size+1) :: vs,kw⟩) (PySem.W.InitBack (s.heap.objs.size+1) R)
     { s with heap:=(s.heap.push PySem.W.emptyDict).push (PySem.W.instObj C s.heap.objs.size) }) :
   codeAny (model prog w) A (.call (.ref C) ⟨vs,kw⟩) R s:=by
 obtain ⟨hh,g,d,t,os⟩:=s
 exact PySem.W.make_core (PySem.W.makes_of X hm) (PySem.W.looks_findIn X hi) (λself=>PySem.W.bind_fn X self hf) (.inl rfl) h
end

def putF (f:Str) (v:V):List (Str × V)->List (Str × V)
 | []=>[(f,v)]
 | (g,x) :: r=>if g=f then (g,v) :: r else (g,x) :: putF f v r
theorem lookup_putF (f g:Str) (v:V):∀ fs:List (Str × V),(putF f v fs).lookup g=if g=f then some v else fs.lookup g
 | []=>by
   show List.lookup g [(f,v)]=_
   by_cases h:g=f
   · have hb:(g == f)=true:=beq_iff_eq.mpr h
     simp only [List.lookup,hb,if_pos h]
   · have hb:(g == f)=false:=beq_eq_false_iff_ne.mpr h
     simp only [List.lookup,hb,if_neg h]
 | (k,x) :: r=>by
   have ih:=lookup_putF f g v r
   rw [show putF f v ((k,x) :: r)=(if k=f then (k,v) :: r else (k,x) :: putF f v r) from rfl]
   by_cases hk:k=f
   · rw [if_pos hk]
     by_cases h:g=k
     · have hb:(g == k)=true:=beq_iff_eq.mpr h
       simp only [List.lookup,hb,if_pos (h.trans hk)]
     · have hb:(g == k)=false:=beq_eq_false_iff_ne.mpr h
       simp only [List.lookup,hb,if_neg (λe:g=f=>h (e.trans hk.symm))]
   · rw [if_neg hk]
     by_cases h:g=k
     · have hb:(g == k)=true:=beq_iff_eq.mpr h
       simp only [List.lookup,hb,if_neg (λe:g=f=>hk (h.symm.trans e))]
     · have hb:(g == k)=false:=beq_eq_false_iff_ne.mpr h
       simp only [List.lookup,hb]
       exact ih
theorem keys_putF (f:Str) (v:V):∀ fs:List (Str × V),f∈(putF f v fs).map (·.1)/\∀ g,g∈fs.map (·.1)->g∈(putF f v fs).map (·.1)
 | []=>⟨by simp [putF],λg h=>by simp at h⟩
 | (k,x) :: r=>by
   obtain ⟨i1,i2⟩:=keys_putF f v r
   rw [show putF f v ((k,x) :: r)=(if k=f then (k,v) :: r else (k,x) :: putF f v r) from rfl]
   by_cases hk:k=f
   · rw [if_pos hk]
     subst hk
     exact ⟨by simp,λg h=>by simpa using h⟩
   · rw [if_neg hk]
     refine ⟨?_,λg h=>?_⟩
     · rw [List.map_cons]
       exact List.mem_cons_of_mem _ i1
     · rw [List.map_cons] at h ⊢
       rcases List.mem_cons.mp h with e | e
       · exact List.mem_cons.mpr (.inl e)
       · exact List.mem_cons_of_mem _ (i2 g e)
theorem length_putF (f:Str) (v:V):∀ fs:List (Str × V),(putF f v fs).length <= fs.length+1
 | []=>by simp [putF]
 | (k,x) :: r=>by
   have ih:=length_putF f v r
   rw [show putF f v ((k,x) :: r)=(if k=f then (k,v) :: r else (k,x) :: putF f v r) from rfl]
   by_cases hk:k=f
   · rw [if_pos hk,List.length_cons,List.length_cons];omega
   · rw [if_neg hk,List.length_cons,List.length_cons];omega

theorem RelO.some_of {v:V} {o:Option Value} (r:RelO (some v) o):∃ u,o=some u/\RelV v u:=by
 cases o with
 | none=>exact (show False from r).elim
 | some u=>exact ⟨u,rfl,r⟩
theorem RelO.none_of {o:Option Value} (r:RelO none o):o=none:=by
 cases o with
 | none=>rfl
 | some u=>exact (show False from r).elim
theorem handed_of {v:V} {u:Value} (r:RelV v u):PySem.W.handedIn u=true:=by
 cases v with
 | non=>cases (show u=Value.none from r);rfl
 | bl b=>cases (show u=Value.bool b from r);rfl
 | int i=>obtain ⟨t,e⟩:=(show ∃ t,u=Value.int i t from r);cases e;rfl
 | str x=>obtain ⟨t,e⟩:=(show ∃ t,u=Value.str x t from r);cases e;rfl
 | byt b=>obtain ⟨t,e⟩:=(show ∃ t,u=Value.bytes b t from r);cases e;rfl
 | flt b=>obtain ⟨t,e⟩:=(show ∃ t,u=Value.float b t from r);cases e;rfl
 | ref a=>cases (show u=Value.ref a from r);rfl
 | ty n=>cases (show u=Value.type n from r);rfl

section
variable {P:Program} {w:World} {H H':Hp} {h h':Heap} {a C dx:Addr} {fs fs':List (Str × V)}
theorem ins_get (hok:HOk P w H h) (e:H a=some (.ins C dx fs)):∃ mA,ObjM h a dx C mA/\(∀ f,RelO (fs.lookup f) (mA f))/\PySem.Within mA (fs.map (·.1))/\fs.length <= 1000/\H dx=some (.own a):=by
 obtain ⟨d,z,ne,ob,mA,n,r,q⟩:=(show ObjOk P w H h a (.ins C dx fs) from hok a _ e)
 exact ⟨mA,⟨ob,n,ne⟩,r,q,z,d⟩
end

structure Cls (K:PySem.W.Frag) (C:Addr):Prop where
 pg:PySem.W.plainGet K C Str.empty=true
 hd:PySem.W.hasDictIn K C=true
 po:PySem.W.plainOver K C=true
 sa:PySem.W.findIn K (.ref C) "__setattr__"=some (some (.builtin "object.__setattr__"))
theorem Cls.get {K:PySem.W.Frag} {C:Addr} (c:Cls K C) (f:Str):PySem.W.plainGet K C f=true:=c.pg
def NoAttr (K:PySem.W.Frag) (C:Addr) (f:Str):Prop:=PySem.W.findIn K (.ref C) f=some none
theorem NoAttr.taker {K:PySem.W.Frag} {C:Addr} {f:Str} (n:NoAttr K C f):PySem.W.takerIn K C f=some none:=by
 unfold PySem.W.takerIn
 rw [show PySem.W.findIn K (.ref C) f=some none from n]
 rfl
structure Con (K:PySem.W.Frag) (C:Addr) (f:Str) (v:V) (u:Value):Prop where
 at_:PySem.W.findIn K (.ref C) f=some (some u)
 rel:RelV v u
 get:PySem.W.specialIn K u "__get__"=some none
 cp:PySem.W.copiedNames.contains f=false
structure Meth (K:PySem.W.Frag) (C:Addr) (m:Str) (f:Addr):Prop where
 at_:PySem.W.findIn K (.ref C) m=some (some (.ref f))
 fn:PySem.W.isFn K (.ref f)=true
 kp:PySem.W.keepIn K (.ref f)=true

section
variable {X:Cx} {pins:List (Addr × Obj)} {σ:St} {H:Hp} {s:Shared} {a C dx:Addr} {fs:List (Str × V)} {f:Str} {v:V} {A:Around} {E:Value->Shared->Prop}

theorem getattr_ok {b:Bool} {Q:Value->Shared->Prop} (I:Inv X pins σ H s) (e:H a=some (.ins C dx fs)) (c:Cls X.K C) (n:NoAttr X.K C f) (l:fs.lookup f=some v)
   (h:∀ u s',Inv X pins σ H s'->RelV v u->Q u s'):wpAny (model X.prog X.w) A (getAttr (.ref a) f b) Q E s:=by
 obtain ⟨mA,O,r,_,_,_⟩:=ins_get I.hok e
 obtain ⟨u,hu,ru⟩:=RelO.some_of (v:=v) (o:=mA f) (by rw [← l];exact r f)
 exact get_map I.kIn O (c.get f) c.hd n hu (handed_of ru) (h u _ (I.tok _) ru)

theorem getmeth_ok {m:Str} {g:Addr} {pl:Sem Bool} {Q:Value × List Value->Shared->Prop} (I:Inv X pins σ H s) (e:H a=some (.ins C dx fs)) (c:Cls X.K C) (k:Meth X.K C m g) (l:fs.lookup m=none)
   (h:Q (.ref g,[.ref a]) s):wpAny (model X.prog X.w) A (getMethod (.ref a) m pl) Q E s:=by
 obtain ⟨mA,O,r,_,_,_⟩:=ins_get I.hok e
 have hn:mA m=none:=RelO.none_of (by rw [← l];exact r m)
 exact get_meth I.kIn O (c.get m) k.at_ k.fn hn h

theorem setattr_ok {y:V} {u:Value} {Q:Unit->Shared->Prop} (I:Inv X pins σ H s) (e:H a=some (.ins C dx fs)) (c:Cls X.K C) (n:NoAttr X.K C f) (hl:fs.length < 1000) (ry:RelV y u)
   (h:∀ s',Inv X pins σ (upd H a (.ins C dx (putF f y fs))) s'->Q () s'):wpAny (model X.prog X.w) A (setAttr (.ref a) f u) Q E s:=by
 obtain ⟨mA,O,r,wi,_,ho⟩:=ins_get I.hok e
 have hz:(fs.map (·.1)).length <= sizeLine:=by rw [List.length_map,sizeLine_eq];omega
 refine set_map I.kIn O c.sa c.po n.taker c.hd wi hz λh' O' sb=>h _ ?_
 have hd:∃ o,h'.get? dx=some o:=let ⟨o,_,_,e',_⟩:=O'.ns;⟨o,e'⟩
 refine I.write (x:=a) (e:=dx) (by rw [e];exact True.intro) (.inr ho) (λb q hb z=>(sb.2 b hb).trans z) hd ?_
 refine ⟨by rw [upd_ne O.ne];exact ho,?_,O.ne,O'.obj,_,O'.ns,λg=>?_,λg hg=>?_⟩
 · have:=length_putF f y fs;omega
 · show RelO ((putF f y fs).lookup g) (if g=f then some u else mA g)
   rw [lookup_putF]
   by_cases q:g=f
   · rw [if_pos q,if_pos q];exact ry
   · rw [if_neg q,if_neg q];exact r g
 · by_cases q:g=f
   · rw [q];exact (keys_putF f y fs).1
   · refine (keys_putF f y fs).2 g (wi g λz=>hg ?_)
     show (if g=f then some u else mA g)=none
     rw [if_neg q];exact z

theorem Inv.made (I:Inv X pins σ H s):Inv X pins σ (upd (upd H s.heap.objs.size (.own (s.heap.objs.size+1))) (s.heap.objs.size+1) (.ins C s.heap.objs.size []))
   { s with heap:=(s.heap.push PySem.W.emptyDict).push (PySem.W.instObj C s.heap.objs.size) }:=by
 have e1:(s.heap.push PySem.W.emptyDict).get? s.heap.objs.size=some PySem.W.emptyDict:=Heap.get?_push_size s.heap rfl
 have e2:((s.heap.push PySem.W.emptyDict).push (PySem.W.instObj C s.heap.objs.size)).get? (s.heap.objs.size+1)=some (PySem.W.instObj C s.heap.objs.size):=by
   have:=Heap.get?_push_size (s.heap.push PySem.W.emptyDict) (o:=PySem.W.instObj C s.heap.objs.size) rfl
   rwa [Heap.size_push] at this
 have e3:(s.heap.push PySem.W.emptyDict).Ns s.heap.objs.size (λ_=>none):=⟨PySem.W.emptyDict,#[],_,e1,rfl,(λe he=>absurd he (by simp)),λ_=>rfl⟩
 have I1:=I.laid (a:=s.heap.objs.size) (o:=.own (s.heap.objs.size+1)) (h':=s.heap.push PySem.W.emptyDict) (t':=s.toks) (λb u q=>Heap.get?_push_of_some _ q) (Nat.le_refl _) ⟨_,e1⟩
 refine I1.laid (a:=s.heap.objs.size+1) (o:=.ins C s.heap.objs.size []) (t':=s.toks) (λb u q=>Heap.get?_push_of_some _ q) (Nat.le_of_eq (Heap.size_push _ _)) ?_
 have ne:s.heap.objs.size≠s.heap.objs.size+1:=Nat.ne_of_lt (Nat.lt_succ_self _)
 refine ⟨by rw [upd_ne ne,upd_same],Nat.zero_le _,ne,e2,λ_=>none,(Heap.Ns1.of_empty e3).at λo q=>Heap.get?_push_of_some _ q,λ_=>True.intro,λy hy=>absurd rfl hy⟩

theorem attr_of {prog:Program} {w:World} {env:Env} {e:Expr} {f:Str} {pos:Pos} {s:Shared} {Q:Value->Shared->Prop} (hb:attributeBase e f env (eval e env)=eval e env)
   (h:wpAny (model prog w) A (eval e env) (λo s₁=>wpAny (model prog w) A (getAttr o f true) Q E s₁) E s):wpAny (model prog w) A (eval (.Attribute e f pos) env) Q E s :=
 Attribute_any_ h (by rw [arm_eval_Attribute,hb])
end

def tFld (K:PySem.W.Frag) (ta:TE) (f:Str):TE:=λσ H Q=>ta σ H λx H1=>∃ a C dx fs v,x=.ref a/\H1 a=some (.ins C dx fs)/\Cls K C/\NoAttr K C f/\fs.lookup f=some v/\Q v H1
def tCon (K:PySem.W.Frag) (ta:TE) (f:Str):TE:=λσ H Q=>ta σ H λx H1=>∃ a C dx fs v u,x=.ref a/\H1 a=some (.ins C dx fs)/\Cls K C/\Con K C f v u/\fs.lookup f=none/\Q v H1
def sFld (K:PySem.W.Frag) (ta tv:TE) (f:Str):TS:=λD σ H=>tv σ H λy H1=>ta σ H1 λx H2=>∃ a C dx fs,x=.ref a/\H2 a=some (.ins C dx fs)/\Cls K C/\NoAttr K C f/\fs.length < 1000 /\
 D.nx σ (upd H2 a (.ins C dx (putF f y fs)))
def InOp (X:Cx) (op:Operator) (rd:V->V->Hp->VK->Prop):Prop :=
 ∀ (pins:List (Addr × Obj)) (s:Shared) (σ:St) (H:Hp) (x y:V) (u v:Value) (Q:VK),Inv X pins σ H s->RelV x u->RelV y v->rd x y H Q->wpAny (model X.prog X.w) X.A (inplaceOp op u v) (EP X pins σ Q) X.xe s
def sFldAug (K:PySem.W.Frag) (ta tv:TE) (rd:V->V->Hp->VK->Prop) (f:Str):TS:=λD σ H=>ta σ H λx H1=>∃ a C dx fs v,x=.ref a/\H1 a=some (.ins C dx fs)/\Cls K C/\NoAttr K C f/\fs.lookup f=some v /\
 tv σ H1 λy H2=>rd v y H2 λz H3=>∃ dx' fs',H3 a=some (.ins C dx' fs')/\fs'.length < 1000/\D.nx σ (upd H3 a (.ins C dx' (putF f z fs')))

section
variable {X:Cx} {o e value:Expr} {f:Str} {pos pos' tpos:Pos} {ta tv:TE}
theorem pe_fld (he:PE X e ta) (hb:attributeBase e f X.env (eval e X.env)=eval e X.env):PE X (.Attribute e f pos) (tFld X.K ta f):=by
 intro pins s σ H Q I h
 refine attr_of hb (thn (he pins s σ H _ I h) λu s1 ⟨x,H1,I1,rx,a,C,dx,fs,v,ex,ea,c,n,l,q⟩=>?_)
 subst ex
 obtain rfl:u=Value.ref a:=rx
 exact getattr_ok I1 ea c n l λu' s2 I2 ru=>⟨v,H1,I2,ru,q⟩
theorem ps_fld (ha:PE X o ta) (hv:PE X value tv) (hs:swapsWith value (some (.Attribute o f pos')) pos.line X.env=pure false):PS X (.Assign [.Attribute o f pos'] value pos) (sFld X.K ta tv f):=by
 intro pins s σ H D I h
 refine plainObj_wpAny_Assign_Attribute (thn (hv pins s σ H _ I h) λu s1 ⟨y,H1,I1,ry,q⟩=>thn (ha pins s1 σ H1 _ I1 q) λov s2 ⟨x,H2,I2,rx,a,C,dx,fs,ex,ea,c,n,l,q2⟩=>?_) hs
 subst ex
 obtain rfl:ov=Value.ref a:=rx
 exact setattr_ok I2 ea c n l ry λs3 I3=>⟨σ,_,I3,q2⟩
def rAdd:V->V->Hp->VK->Prop:=λx y H Q=>∃ i j,x=.int i/\y=.int j/\Q (.int (i+j)) H
def rSub:V->V->Hp->VK->Prop:=λx y H Q=>∃ i j,x=.int i/\y=.int j/\Q (.int (i - j)) H
end

section
variable {X:Cx} {pins:List (Addr × Obj)} {σ:St} {H:Hp} {s:Shared} {A:Around} {E:Value->Shared->Prop} {Q:Value->Shared->Prop} {c:Value} {b:Bool}
inductive TyOf (K:PySem.W.Frag) (H:Hp):V->Value->Prop where
 | non:TyOf K H .non (.type "NoneType")
 | bl (x:Bool):TyOf K H (.bl x) (.type "bool")
 | int (i:Int):TyOf K H (.int i) (.type "int")
 | str (x:Str):TyOf K H (.str x) (.type "str")
 | flt (x:UInt64):TyOf K H (.flt x) (.type "float")
 | lst {a:Addr} {xs:List V} (e:H a=some (.lst xs)):TyOf K H (.ref a) (.type "list")
 | frz {a:Addr} {o:Obj} {xs:List V} (e:H a=some (.frz o (.lst xs))):TyOf K H (.ref a) (.type "list")
 | tup {a:Addr} {xs:List V} (e:H a=some (.tup xs)):TyOf K H (.ref a) (.type "tuple")
 | dK {a:Addr} {kvs:List (Key × V)} (e:H a=some (.dK kvs)):TyOf K H (.ref a) (.type "dict")
 | dT {a:Addr} {kvs:List (List Key × V)} (e:H a=some (.dT kvs)):TyOf K H (.ref a) (.type "dict")
 | ins {a C dx:Addr} {fs:List (Str × V)} (e:H a=some (.ins C dx fs)) (cl:Cls K C) (ha:PySem.W.findIn K (.ref C) "__class__"=some (some (.builtin "object.__class__")))
     (hn:PySem.W.specialIn K (.builtin "object.__class__") "__get__"=some (some (.builtin "getset_descriptor.__get__"))) (htk:PySem.W.takesIn K (.builtin "object.__class__")=some true)
     (hm:PySem.W.mroIn K C (.type "object")=some true):TyOf K H (.ref a) (.ref C)
theorem isinst_ok {x:V} {u t:Value} (I:Inv X pins σ H s) (rx:RelV x u) (ty:TyOf X.K H x t) (e:PySem.W.kitOne X.K t c=some b) (h:∀ tk,Q (.bool b) { s with toks:=tk }) :
   wpAny (model X.prog X.w) A (call (.builtin "isinstance") [u,c]) Q E s:=by
 cases ty with
 | non=>cases (show u=Value.none from rx);exact PySem.W.kia_one PySem.W.kitx_none I.kIn True.intro e (λz=>nomatch z) h
 | bl y=>cases (show u=Value.bool y from rx);exact PySem.W.kia_one PySem.W.kitx_bool I.kIn True.intro e (λz=>nomatch z) h
 | int i=>obtain ⟨t,q⟩:=(show ∃ t,u=Value.int i t from rx);cases q;exact PySem.W.kia_one PySem.W.kitx_int I.kIn True.intro e (λz=>nomatch z) h
 | str y=>obtain ⟨t,q⟩:=(show ∃ t,u=Value.str y t from rx);cases q;exact PySem.W.kia_one PySem.W.kitx_str I.kIn True.intro e (λz=>nomatch z) h
 | flt y=>obtain ⟨t,q⟩:=(show ∃ t,u=Value.float y t from rx);cases q;exact PySem.W.kia_one PySem.W.kitx_float I.kIn True.intro e (λz=>nomatch z) h
 | @lst a xs ea =>
   cases (show u=Value.ref a from rx)
   obtain ⟨_,_,n,_,h1⟩:=(show ObjOk X.prog X.w H s.heap a (.lst xs) from I.hok a _ ea)
   exact PySem.W.kia_one PySem.W.kitx_list I.kIn ⟨_,h1,rfl⟩ e (λz=>nomatch z) h
 | @frz a ob xs ea =>
   cases (show u=Value.ref a from rx)
   obtain ⟨_,_,_,n,_,h1⟩:=(show ObjOk X.prog X.w H s.heap a (.frz ob (.lst xs)) from I.hok a _ ea)
   exact PySem.W.kia_one PySem.W.kitx_list I.kIn ⟨_,h1,rfl⟩ e (λz=>nomatch z) h
 | @tup a xs ea =>
   cases (show u=Value.ref a from rx)
   obtain ⟨_,_,_,p⟩:=(show ObjOk X.prog X.w H s.heap a (.tup xs) from I.hok a _ ea)
   obtain ⟨o,h1,h2,_⟩:=p
   exact PySem.W.kia_one PySem.W.kitx_tuple I.kIn ⟨o,h1,h2⟩ e (λz=>nomatch z) h
 | @dK a kvs ea =>
   cases (show u=Value.ref a from rx)
   obtain ⟨_,_,vs,_,p⟩:=(show ObjOk X.prog X.w H s.heap a (.dK kvs) from I.hok a _ ea)
   obtain ⟨o,es,ep,h1,h2,_⟩:=p
   exact PySem.W.kia_one PySem.W.kitx_dict I.kIn ⟨o,h1,h2.1⟩ e (λz=>nomatch z) h
 | @dT a kvs ea =>
   cases (show u=Value.ref a from rx)
   obtain ⟨_,_,xs,_,o,es,ep,h1,h2,_⟩:=(show ObjOk X.prog X.w H s.heap a (.dT kvs) from I.hok a _ ea)
   exact PySem.W.kia_one PySem.W.kitx_dict I.kIn ⟨o,h1,h2.1⟩ e (λz=>nomatch z) h
 | @ins a C dx fs ea cl ha hn htk hm =>
   cases (show u=Value.ref a from rx)
   obtain ⟨mA,O,_⟩:=ins_get I.hok ea
   obtain ⟨od,J,_⟩:=O.look
   exact PySem.W.kia_one (PySem.W.kitx_own (cl.get _) cl.hd ha hn htk hm) I.kIn J e (λz=>nomatch z) h
end
end L2

namespace L2
open PySem PySem.Spec PyProof.Rows

structure Room (k:Nat) (A:Around):Prop where
 hd:A.handled=none
 dp:A.depth+3 * k+5 < recursionLimit
 un:A.units+16 * k+200 < cLine
theorem Room.mono {j k:Nat} {A:Around} (r:Room k A) (h:j <= k):Room j A:=⟨r.hd,by have:=r.dp;omega,by have:=r.un;omega⟩
theorem Room.deeper {k:Nat} {A:Around} (r:Room (k+1) A) (env:Env):Room k (A.deeper env) :=
 ⟨r.hd,by have:=r.dp;show A.depth+1+3 * k+5 < _;omega,by have:=r.un;show A.units+3+16 * k+200 < _;omega⟩
theorem Room.in1 {k:Nat} {A:Around} (r:Room (k+1) A):Room k A.in1 :=
 ⟨r.hd,by have:=r.dp;show A.depth+3 * k+5 < _;omega,by have:=r.un;show A.units+1+16 * k+200 < _;omega⟩
theorem make_depth {A:Around} {C:Addr} {us:List Value} {kw:List (Str × Value)}:(A.under (.builtin "type.__call__" ⟨.ref C :: us,kw⟩)).depth=A.depth+1:=by
 first | rfl | simp [Around.under,Code.weight,Code.isCreation,Code.isGuard,Code.isCaller,Code.frames,Code.isFrame,guardIds]
theorem make_units {A:Around} {C:Addr} {us:List Value} {kw:List (Str × Value)}:(A.under (.builtin "type.__call__" ⟨.ref C :: us,kw⟩)).units=A.units+1:=by
 first | rfl | simp [Around.under,Code.cUnits,Code.frames,Code.isFrame]
theorem Room.make {k:Nat} {A:Around} (r:Room (k+1) A) (C:Addr) (us:List Value) (kw:List (Str × Value)):Room k (A.under (.builtin "type.__call__" ⟨.ref C :: us,kw⟩)) :=
 ⟨r.hd,by have:=r.dp;rw [make_depth];omega,by have:=r.un;rw [make_units];omega⟩
theorem Room.depth {k:Nat} {A:Around} (r:Room k A):A.depth < recursionLimit:=by have:=r.dp;omega
theorem Room.units {k:Nat} {A:Around} (r:Room k A):A.units+64 < cLine:=by have:=r.un;omega
def tNil:TA:=λ_ H Q=>Q [] H
def tCons (ta:TE) (tr:TA):TA:=λσ H Q=>ta σ H λx H1=>tr σ H1 λxs H2=>Q (x :: xs) H2
section
variable {X:Cx} {e:Expr} {es:List Expr} {te:TE} {t:TA} {pos:Pos}
theorem pa_nil:PA X [] tNil:=λ_ _ _ _ H Q I h=>Calls.spliced_nil ⟨[],H,I,.nil,h⟩
theorem pa_cons (ha:PE X e te) (hr:PA X es t) (hs:starEach (e :: es) X.env=(false,eval e X.env) :: starEach es X.env:=by rfl):PA X (e :: es) (tCons te t):=by
 intro pos pins s σ H Q I h
 rw [hs]
 show wpAny _ _ (spliced ((false,eval e X.env) :: backTo pos (starEach es X.env))) _ _ s
 refine Calls.spliced_cons (thn (ha pins s σ H _ I h) λu s1 ⟨x,H1,I1,r1,q1⟩=>?_)
 exact thn (hr pos pins s1 σ H1 _ I1 q1) λus s2 ⟨xs,H2,I2,r2,q2⟩=>⟨x :: xs,H2,I2,.cons r1 r2,q2⟩

def tTup (t:TA):TE:=λσ H Q=>t σ H λxs H1=>xs.length <= sizeLine/\∀ p,H1 p=none->Q (.ref p) (upd H1 p (.tup xs))
def tLst (t:TA):TE:=λσ H Q=>t σ H λxs H1=>xs.length <= sizeLine/\∀ p,H1 p=none->Q (.ref p) (upd H1 p (.lst xs))
theorem pe_tup {x1} (h:PA X es t):PE X (.Tuple es x1 pos) (tTup t):=by
 intro pins s σ H Q I hq
 refine wpAny_Tuple_spliced (thn (h pos pins s σ H _ I hq) λus s1 ⟨xs,H1,I1,r,z,q⟩=>⟨by rw [← r.length];exact z,?_⟩)
 have hf:H1 s1.heap.objs.size=none:=I1.hok.fresh (Nat.le_refl _)
 refine ⟨.ref s1.heap.objs.size,upd H1 s1.heap.objs.size (.tup xs),I1.laid (t':=s1.toks) (λb u e=>Heap.get?_push_of_some _ e) (Nat.le_refl _) ?_,rfl,q _ hf⟩
 exact ⟨z,us,r,⟨_,Heap.get?_push_size _ rfl,rfl,_,rfl⟩⟩
theorem pe_lst (h:PA X es t):PE X (.List es pos) (tLst t):=by
 intro pins s σ H Q I hq
 refine wpAny_List_spliced (thn (h pos pins s σ H _ I hq) λus s1 ⟨xs,H1,I1,r,z,q⟩=>⟨by rw [← r.length];exact z,?_⟩)
 have hf:H1 s1.heap.objs.size=none:=I1.hok.fresh (Nat.le_refl _)
 refine ⟨.ref s1.heap.objs.size,upd H1 s1.heap.objs.size (.lst xs),I1.laid (t':=s1.toks) (λb u e=>Heap.get?_push_of_some _ e) (Nat.le_refl _) ?_,rfl,q _ hf⟩
 exact ⟨z,us,0,r,Heap.get?_push_size _ rfl⟩
end

abbrev Sp:=List V->Hp->VK->XK->Prop
abbrev CXT:=List Env->Hp->Shared->XK->Value->Shared->Prop

structure Env0 (P:Program) (w:World) (K:PySem.W.Frag) (mg:Str->Option Value) (base:Heap) (A:Around) (outer:List Env) (s:Shared) (H:Hp):Prop where
 frames:A.frames=some outer
 mod:Mod K mg base
 bs:∀ b o,base.get? b=some o->s.heap.get? b=some o/\H b=none
 bsz:base.objs.size <= s.heap.objs.size
 funs:s.heap.FunFrames base outer
 frf:∀ b∈frs outer,H b=none
 hok:HOk P w H s.heap
 bare:AllBare s.gens
def CE (outer:List Env) (P:Program) (w:World) (H:Hp) (s:Shared) (Q:VK) (u:Value) (s':Shared):Prop :=
 ∃ v H',s'.os=s.os/\AllBare s'.gens/\Un (frs outer) [] H H' s.heap s'.heap/\HOk P w H' s'.heap/\RelV v u/\Q v H'
def CR (CX:CXT) (outer:List Env) (P:Program) (w:World) (H:Hp) (s:Shared) (Q:VK) (E:XK) (r:Result) (s':Shared):Prop :=
 match r with
 | .ok (.ret u)=>CE outer P w H s Q u s'
 | .ok _=>False
 | .error e=>CX outer H s E e s'
structure FnOk (P:Program) (w:World) (K:PySem.W.Frag) (mg:Str->Option Value) (base:Heap) (CX:CXT) (k:Nat) (f:Addr) (fd:FuncData) (ps:List Str) (sp:Sp):Prop where
 len:∀ vs H Q E,sp vs H Q E->vs.length=ps.length
 run:∀ (A:Around) (outer:List Env) (s:Shared) (H:Hp) (args:Args) (us:List Value) (vs:List V) (Q:VK) (E:XK),Room k A->Env0 P w K mg base A outer s H->BindsTo s fd args (ps.zip us)->Vals vs us->sp vs H Q E ->
   codeAny (model P w) A (.call (.ref f) args) (CR CX outer P w H s Q E) s
theorem FnOk.mono {P:Program} {w:World} {K:PySem.W.Frag} {mg:Str->Option Value} {base:Heap} {CX:CXT} {j k:Nat} {f:Addr} {fd:FuncData} {ps:List Str} {sp:Sp} (F:FnOk P w K mg base CX j f fd ps sp) (h:j <= k) :
   FnOk P w K mg base CX k f fd ps sp:=⟨F.len,λA outer s H args us vs Q E hr=>F.run A outer s H args us vs Q E (hr.mono h)⟩
theorem FnOk.imp {P:Program} {w:World} {K:PySem.W.Frag} {mg:Str->Option Value} {base:Heap} {CX:CXT} {k:Nat} {f:Addr} {fd:FuncData} {ps:List Str} {sp sp':Sp} (F:FnOk P w K mg base CX k f fd ps sp)
   (h:∀ vs H Q E,sp' vs H Q E->sp vs H Q E):FnOk P w K mg base CX k f fd ps sp' :=
 ⟨λvs H Q E q=>F.len vs H Q E (h _ _ _ _ q),λA outer s H args us vs Q E hr he hb hv hs=>F.run A outer s H args us vs Q E hr he hb hv (h _ _ _ _ hs)⟩

theorem Env0.make {P:Program} {w:World} {K:PySem.W.Frag} {mg:Str->Option Value} {base:Heap} {A:Around} {outer:List Env} {s:Shared} {H:Hp} (e:Env0 P w K mg base A outer s H) (C:Addr) (us:List Value) (kw:List (Str × Value)) :
   Env0 P w K mg base (A.under (.builtin "type.__call__" ⟨.ref C :: us,kw⟩)) outer s H:=⟨by first | exact e.frames | (simpa [Around.under,Code.envs,Code.isFrame,pushEnvs] using e.frames),e.mod,e.bs,e.bsz,e.funs,e.frf,e.hok,e.bare⟩
theorem Env0.in1 {P:Program} {w:World} {K:PySem.W.Frag} {mg:Str->Option Value} {base:Heap} {A:Around} {outer:List Env} {s:Shared} {H:Hp} (e:Env0 P w K mg base A outer s H) :
   Env0 P w K mg base A.in1 outer s H:=⟨e.frames,e.mod,e.bs,e.bsz,e.funs,e.frf,e.hok,e.bare⟩

section
variable {X:Cx} {pins:List (Addr × Obj)} {σ:St} {H:Hp} {s s':Shared}
theorem Inv.env0 (I:Inv X pins σ H s):Env0 X.prog X.w X.K X.mg X.base X.A X.stack s H :=
 ⟨I.ok.frames,I.ok.mod,I.bs,Nat.le_trans I.ok.bsz I.sz,I.stack,I.stkFree,I.hok,I.bare⟩
theorem Inv.after {Q:VK} {u:Value} (I:Inv X pins σ H s) (h:CE X.stack X.prog X.w H s Q u s'):EP X pins σ Q u s':=by
 obtain ⟨v,H',os,bare,un,hok,r,q⟩:=h
 obtain ⟨hh,g,d,t,os'⟩:=s'
 obtain rfl:os'=s.os:=os
 exact ⟨v,H',I.call (h':=hh) (g':=g) (d':=d) (t':=t) (ch:=[]) un hok bare (λb z=>absurd z (by simp)),r,q⟩
end

def tCall (sp:Sp) (dvs:List V) (E:XK) (t:TA):TE:=λσ H Q=>t σ H λvs H1=>sp (vs++dvs) H1 Q E
def tMeth (C:Addr) (m:Str) (sp:Sp) (dvs:List V) (E:XK) (ta:TE) (t:TA):TE:=λσ H Q=>ta σ H λx H1=>∃ a dx fs,x=.ref a/\H1 a=some (.ins C dx fs)/\fs.lookup m=none /\
 t σ H1 λvs H2=>sp (x :: (vs++dvs)) H2 Q E
def tMake (C:Addr) (sp:Sp) (dvs:List V) (E:XK) (t:TA):TE:=λσ H Q=>t σ H λvs H1=>∀ x dx,H1 x=none->H1 dx=none->dx≠x ->
 sp (.ref x :: (vs++dvs)) (upd (upd H1 dx (.own x)) x (.ins C dx [])) (λv H2=>v=.non/\Q (.ref x) H2) E

def Binds (K:PySem.W.Frag) (fd:FuncData) (ps:List Str) (ds:List Value):Prop :=
 ∀ (s:Shared) (us:List Value),K.In s.heap->(us++ds).length=ps.length->BindsTo s fd ⟨us,[]⟩ (ps.zip (us++ds))
theorem Binds.all {K:PySem.W.Frag} {fd:FuncData} {ps:List Str} (h:∀ us:List Value,us.length=ps.length->bindArgs fd ⟨us,[]⟩=pure (ps.zip us)):Binds K fd ps []:=λs us _ hl=>by
 rw [List.append_nil] at hl ⊢
 exact .of_eq (h us hl)

def Passes (CX:CXT) (X:Cx) (E:XK):Prop:=∀ (pins:List (Addr × Obj)) (σ:St) (H:Hp) (s:Shared) (e:Value) (s':Shared),Inv X pins σ H s->CX X.stack H s E e s'->X.xe e s'

section
variable {X:Cx} {CX:CXT} {k:Nat} {f C:Addr} {fd:FuncData} {ps:List Str} {sp:Sp} {dvs:List V} {ds:List Value} {E:XK} {x m:Str} {p pos apos:Pos} {e o:Expr} {es:List Expr} {ta:TE} {t:TA}

theorem run_fn {pins:List (Addr × Obj)} {σ:St} {H:Hp} {s:Shared} {Q:VK} {us:List Value} {vs:List V} (F:FnOk X.prog X.w X.K X.mg X.base CX k f fd ps sp) (hr:Room k X.A) (hb:Binds X.K fd ps ds) (hd:Vals dvs ds) (hx:Passes CX X E)
   (I:Inv X pins σ H s) (r:Vals vs us) (h:sp (vs++dvs) H Q E):wpAny (model X.prog X.w) X.A (call (.ref f) us) (EP X pins σ Q) X.xe s:=by
 have r2:Vals (vs++dvs) (us++ds):=r.append hd
 have hl:(us++ds).length=ps.length:=by rw [← r2.length];exact F.len _ _ _ _ h
 refine wpAny_call (codeAny_mono (F.run X.A X.stack s H ⟨us,[]⟩ (us++ds) (vs++dvs) Q E hr I.env0 (hb s us I.kIn hl) r2 h) λr s' hq=>?_)
 cases r with
 | error e=>exact hx pins σ H s e s' I hq
 | ok fl =>
   cases fl with
   | ret u=>exact I.after hq
   | next=>exact False.elim hq
   | brk=>exact False.elim hq
   | cont=>exact False.elim hq

theorem pe_call (F:FnOk X.prog X.w X.K X.mg X.base CX k f fd ps sp) (hr:Room k X.A) (hg:Gl X x) (hm:X.mg x=some (.ref f)) (hk:PySem.W.keepIn X.K (.ref f)=true) (hb:Binds X.K fd ps ds) (hd:Vals dvs ds) (hx:Passes CX X E)
   (ha:PA X (e :: es) t) (hdb:(x == ("__debug__":Str))=false:=by decide) (he:starEach (e :: es) X.env=(false,eval e X.env) :: starEach es X.env:=by rfl) (hpl:(backTo pos (starEach es X.env)).any (·.1)=false:=by rfl) :
   PE X (.Call (.Name x p) (e :: es) [] pos) (tCall sp dvs E t):=by
 intro pins s σ H Q I h
 refine wpAny_Call_Name_kw (ld_glob I hg hm ?_ hdb)
 refine PySem.W.callWith_K (h₀:=X.base) I.ok.mod.kin hk (thn (ha pos pins s σ H _ I h) λus s1 ⟨vs,H1,I1,r,q⟩=>⟨I1.kIn,?_⟩) he hpl
 exact run_fn F hr hb hd hx I1 r q
theorem pe_meth {pl:Sem Bool} (he:PE X o ta) (c:Cls X.K C) (hm:Meth X.K C m f) (F:FnOk X.prog X.w X.K X.mg X.base CX k f fd ps sp) (hr:Room k X.A) (hb:Binds X.K fd ps ds) (hd:Vals dvs ds) (hx:Passes CX X E) (ha:PA X (e :: es) t)
   (hst:starEach (e :: es) X.env=(false,eval e X.env) :: starEach es X.env:=by rfl) (hpl:(backTo pos (starEach es X.env)).any (·.1)=false:=by rfl)
   (ht:eval (.Call (.Attribute o m apos) (e :: es) [] pos) X.env=(do
     let ov ← eval o X.env
     standAt apos.atName
     let (f,first) ← holding [ov] (getMethod ov m pl)
     callWith pos f first (backTo pos (starEach (e :: es) X.env)) (backToKw pos (keywordEach [] X.env))):=by rfl) :
   PE X (.Call (.Attribute o m apos) (e :: es) [] pos) (tMeth C m sp dvs E ta t):=by
 intro pins s σ H Q I h
 refine PySem.W.methodCall_KW (pl:=pl) (thn (he pins s σ H _ I h) λu s1 ⟨x,H1,I1,rx,a,dx,fs,ex,ea,l,q⟩=>?_) ht
 subst ex
 obtain rfl:u=Value.ref a:=rx
 refine getmeth_ok I1 ea c hm l ?_
 refine PySem.W.callWith_K (first:=[.ref a]) (h₀:=X.base) I.ok.mod.kin hm.kp (thn (ha pos pins s1 σ H1 _ I1 q) λus s2 ⟨vs,H2,I2,r,q2⟩=>⟨I2.kIn,?_⟩) hst hpl
 exact run_fn (us:=.ref a :: us) (vs:=.ref a :: vs) F hr hb hd hx I2 (.cons rfl r) q2
theorem pe_meth0 {pl:Sem Bool} (he:PE X o ta) (c:Cls X.K C) (hm:Meth X.K C m f) (F:FnOk X.prog X.w X.K X.mg X.base CX k f fd ps sp) (hr:Room k X.A) (hb:Binds X.K fd ps ds) (hd:Vals dvs ds) (hx:Passes CX X E)
   (ht:eval (.Call (.Attribute o m apos) [] [] pos) X.env=(do
     let ov ← eval o X.env
     standAt apos.atName
     let (f,first) ← holding [ov] (getMethod ov m pl)
     callWith pos f first (backTo pos (starEach [] X.env)) (backToKw pos (keywordEach [] X.env))):=by rfl) :
   PE X (.Call (.Attribute o m apos) [] [] pos) (tMeth C m sp dvs E ta tNil):=by
 intro pins s σ H Q I h
 refine PySem.W.methodCall_KW (pl:=pl) (thn (he pins s σ H _ I h) λu s1 ⟨x,H1,I1,rx,a,dx,fs,ex,ea,l,q⟩=>?_) ht
 subst ex
 obtain rfl:u=Value.ref a:=rx
 refine getmeth_ok I1 ea c hm l ?_
 exact PySem.W.callWith_K0 (first:=[.ref a]) I1.kIn hm.kp (run_fn (us:=[.ref a]) (vs:=[.ref a]) F hr hb hd hx I1 (.cons rfl .nil) q)

structure Mk (K:PySem.W.Frag) (C f:Addr):Prop where
 makes:PySem.W.makesIn K C=true
 init:PySem.W.findIn K (.ref C) "__init__"=some (some (.ref f))
 fn:PySem.W.isFn K (.ref f)=true
 kp:PySem.W.keepIn K (.ref C)=true

theorem run_make {pins:List (Addr × Obj)} {σ:St} {H:Hp} {s:Shared} {Q:VK} {us:List Value} {vs:List V} (M:Mk X.K C f) (F:FnOk X.prog X.w X.K X.mg X.base CX k f fd ps sp) (hr:Room (k+1) X.A) (hb:Binds X.K fd ps ds) (hd:Vals dvs ds)
   (hx:Passes CX X E) (I:Inv X pins σ H s) (r:Vals vs us)
   (h:∀ x dx,H x=none->H dx=none->dx≠x->sp (.ref x :: (vs++dvs)) (upd (upd H dx (.own x)) x (.ins C dx [])) (λv H2=>v=.non/\Q (.ref x) H2) E) :
   wpAny (model X.prog X.w) X.A (call (.ref C) us) (EP X pins σ Q) X.xe s:=by
 have hq:=h (s.heap.objs.size+1) s.heap.objs.size (I.hok.fresh (Nat.le_succ _)) (I.hok.fresh (Nat.le_refl _)) (Nat.ne_of_lt (Nat.lt_succ_self _))
 have I2:=Inv.made (C:=C) I
 have r2:Vals (V.ref (s.heap.objs.size+1) :: (vs++dvs)) (Value.ref (s.heap.objs.size+1) :: (us++ds)):=.cons rfl (r.append hd)
 have hl:(Value.ref (s.heap.objs.size+1) :: us++ds).length=ps.length:=by
   have e:=r2.length
   rw [F.len _ _ _ _ hq] at e
   exact e.symm
 refine wpAny_call (make_map (f:=f) I.kIn M.makes M.init (beq_iff_eq.mp M.fn) (codeAny_mono (F.run _ X.stack _ _ ⟨Value.ref (s.heap.objs.size+1) :: us,[]⟩ (Value.ref (s.heap.objs.size+1) :: (us++ds)) _ _ E (hr.make C us [])
   (I2.env0.make C us []) (hb _ (Value.ref (s.heap.objs.size+1) :: us) I2.kIn hl) r2 hq) λr s' hq'=>?_))
 cases r with
 | error e=>exact hx pins σ _ _ e s' I2 hq'
 | ok fl =>
   cases fl with
   | ret u =>
     obtain ⟨v,H',I3,rv,ev,q3⟩:=I2.after hq'
     subst ev
     exact ⟨rv,⟨V.ref (s.heap.objs.size+1),H',I3,rfl,q3⟩⟩
   | next=>exact False.elim hq'
   | brk=>exact False.elim hq'
   | cont=>exact False.elim hq'
theorem pe_make (M:Mk X.K C f) (F:FnOk X.prog X.w X.K X.mg X.base CX k f fd ps sp) (hr:Room (k+1) X.A) (hg:Gl X x) (hm:X.mg x=some (.ref C)) (hb:Binds X.K fd ps ds) (hd:Vals dvs ds) (hx:Passes CX X E)
   (ha:PA X (e :: es) t) (hdb:(x == ("__debug__":Str))=false:=by decide) (he:starEach (e :: es) X.env=(false,eval e X.env) :: starEach es X.env:=by rfl) (hpl:(backTo pos (starEach es X.env)).any (·.1)=false:=by rfl) :
   PE X (.Call (.Name x p) (e :: es) [] pos) (tMake C sp dvs E t):=by
 intro pins s σ H Q I h
 refine wpAny_Call_Name_kw (ld_glob I hg hm ?_ hdb)
 refine PySem.W.callWith_K (h₀:=X.base) I.ok.mod.kin M.kp (thn (ha pos pins s σ H _ I h) λus s1 ⟨vs,H1,I1,r,q⟩=>⟨I1.kIn,?_⟩) he hpl
 exact run_make M F hr hb hd hx I1 r q
theorem pe_make0 (M:Mk X.K C f) (F:FnOk X.prog X.w X.K X.mg X.base CX k f fd ps sp) (hr:Room (k+1) X.A) (hg:Gl X x) (hm:X.mg x=some (.ref C)) (hb:Binds X.K fd ps ds) (hd:Vals dvs ds) (hx:Passes CX X E)
   (hdb:(x == ("__debug__":Str))=false:=by decide):PE X (.Call (.Name x p) [] [] pos) (tMake C sp dvs E tNil):=by
 intro pins s σ H Q I h
 refine wpAny_Call_Name_kw (ld_glob I hg hm ?_ hdb)
 exact PySem.W.callWith_K0 I.kIn M.kp (run_make (us:=[]) M F hr hb hd hx I .nil h)
end

def PK (X:Cx) (kws:List Keyword) (t:TA):Prop :=
 ∀ (pos:Pos) (pins:List (Addr × Obj)) (s:Shared) (σ:St) (H:Hp) (Q:List V->Hp->Prop),Inv X pins σ H s->t σ H Q->wpAny (model X.prog X.w) X.A (evalAll ((backToKw pos (keywordEach kws X.env)).map (·.2))) (AP X pins σ Q) X.xe s
section
variable {X:Cx} {CX:CXT} {k:Nat} {f C:Addr} {fd:FuncData} {ps ks:List Str} {sp:Sp} {E:XK} {x m:Str} {p pos apos kpos:Pos} {e o:Expr} {es:List Expr} {kws:List Keyword} {te ta:TE} {t tk:TA} {nm:Option Str}
structure KBinds (K:PySem.W.Frag) (fd:FuncData) (ps ks:List Str) (g:List Value->List Value->List Value) (gV:List V->List V->List V):Prop where
 to:∀ (s:Shared) (us ws:List Value),K.In s.heap->(g us ws).length=ps.length->BindsTo s fd ⟨us,ks.zip ws⟩ (ps.zip (g us ws))
 rel:∀ {vs:List V} {us:List Value} {zs:List V} {ws:List Value},Vals vs us->Vals zs ws->Vals (gV vs zs) (g us ws)
def tCallK (sp:Sp) (gV:List V->List V->List V) (E:XK) (t tk:TA):TE:=λσ H Q=>t σ H λvs H1=>tk σ H1 λzs H2=>sp (gV vs zs) H2 Q E
variable {g:List Value->List Value->List Value} {gV:List V->List V->List V}
end

structure FnScope (N P:List Str) (sc:Scope):Prop where
 kind:sc.kind=.function
 co:sc.isCoroutine=false
 gen:sc.isGenerator=false
 nd:N.Nodup
 pre:N.take P.length=P
 par:∀ x∈P,sc.names.lookup x=some .local\/sc.names.lookup x=some .cell
 nofree:∀ y∈sc.names,y.2≠.free

theorem bindL_out {kindOf:Str->Option NameKind} {x:Str}:∀ {binds:List (Str × Value)} {m:Str->Option Value},(∀ v,(x,v) ∉ binds)->bindL kindOf binds m x=m x
 | [],_,_=>rfl
 | (n,v) :: r,m,h=>by
   unfold bindL
   rw [bindL_out λw hw=>h w (List.mem_cons_of_mem _ hw)]
   split
   · have:x≠n:=by rintro rfl;exact h v List.mem_cons_self
     simp [this]
   · rfl
theorem bindC_out {kindOf:Str->Option NameKind} {x:Str}:∀ {binds:List (Str × Value)} {m:Str->Option Value},(∀ v,(x,v) ∉ binds)->bindC kindOf binds m x=m x
 | [],_,_=>rfl
 | (n,v) :: r,m,h=>by
   unfold bindC
   rw [bindC_out λw hw=>h w (List.mem_cons_of_mem _ hw)]
   split
   · rfl
   · have:x≠n:=by rintro rfl;exact h v List.mem_cons_self
     simp [this]
theorem bindL_get {kindOf:Str->Option NameKind} {x:Str} {v:Value}:∀ {P:List Str} {vs:List Value} {i:Nat} {m:Str->Option Value},P.Nodup->P[i]?=some x->vs[i]?=some v->kindOf x=some .local ->
   bindL kindOf (P.zip vs) m x=some v
 | [],_,_,_,_,h,_,_=>by simp at h
 | _ :: _,[],_,_,_,_,h,_=>by simp at h
 | p :: P,w :: vs,0,m,nd,h1,h2,hk=>by
   simp at h1 h2;subst h1;subst h2
   show bindL kindOf ((p,w) :: P.zip vs) m p=_
   unfold bindL
   rw [bindL_out λv hv=>(List.nodup_cons.mp nd).1 (List.of_mem_zip hv).1,if_pos hk]
   simp
 | p :: P,w :: vs,i+1,m,nd,h1,h2,hk=>by
   show bindL kindOf ((p,w) :: P.zip vs) m x=_
   unfold bindL
   exact bindL_get (i:=i) (List.nodup_cons.mp nd).2 (by simpa using h1) (by simpa using h2) hk
theorem bindC_get {kindOf:Str->Option NameKind} {x:Str} {v:Value}:∀ {P:List Str} {vs:List Value} {i:Nat} {m:Str->Option Value},P.Nodup->P[i]?=some x->vs[i]?=some v->kindOf x≠some .local ->
   bindC kindOf (P.zip vs) m x=some v
 | [],_,_,_,_,h,_,_=>by simp at h
 | _ :: _,[],_,_,_,_,h,_=>by simp at h
 | p :: P,w :: vs,0,m,nd,h1,h2,hk=>by
   simp at h1 h2;subst h1;subst h2
   show bindC kindOf ((p,w) :: P.zip vs) m p=_
   unfold bindC
   rw [bindC_out λv hv=>(List.nodup_cons.mp nd).1 (List.of_mem_zip hv).1,if_neg hk]
   simp
 | p :: P,w :: vs,i+1,m,nd,h1,h2,hk=>by
   show bindC kindOf ((p,w) :: P.zip vs) m x=_
   unfold bindC
   exact bindC_get (i:=i) (List.nodup_cons.mp nd).2 (by simpa using h1) (by simpa using h2) hk

def start (N:List Str) (vs:List V):St:=vs.map some++List.replicate (N.length - vs.length) none

def cxOf (CX:CXT) (P:Program) (w:World) (K:PySem.W.Frag) (mg:Str->Option Value) (base:Heap) (N:List Str) (qual:Str) (scope:Scope) (f:Addr) (cd:Value) (A:Around) (outer:List Env) (s:Shared) (H:Hp) (E:XK):Cx where
 prog:=P
 w:=w
 K:=K
 mg:=mg
 base:=base
 A:=A.deeper (envOfC qual scope s.heap.objs.size f cd)
 N:=N
 s₀:=s
 H₀:=H
 env:=envOfC qual scope s.heap.objs.size f cd
 outer:=outer
 stack:=envOfC qual scope s.heap.objs.size f cd :: outer
 ex:=[]
 calm:=true
 fn:=λ_=>true
 pn:=[]
 xe:=λe s'=>wpAny (model P w) (A.deeper (envOfC qual scope s.heap.objs.size f cd)) (leaving (envOfC qual scope s.heap.objs.size f cd) e) (λ_ s''=>CX outer H s E e s'') (λe' s''=>CX outer H s E e' s'') s'

theorem cell_has {sc:Scope} {n:Nat} {x:Str} (h:sc.names.lookup x=some .cell):∃ c,(cellsFrom n sc.names []).lookup x=some c:=by
 have q:=PySem.W.cellsFrom_some sc.names n [] (.inl h)
 exact Option.isSome_iff_exists.mp q

theorem inv_start {CX:CXT} {P:Program} {w:World} {K:PySem.W.Frag} {mg:Str->Option Value} {base:Heap} {N ps:List Str} {qual:Str} {scope:Scope} {f:Addr} {cd:Value} {A:Around} {outer:List Env} {s s1:Shared} {H:Hp} {E:XK} {us:List Value} {vs:List V}
   (S:FnScope N ps scope) (hd:A.handled=none) (e0:Env0 P w K mg base A outer s H) (hl:vs.length=ps.length) (r:Vals vs us)
   (x:InCallC s s.heap.objs.size (bindL (envOfC qual scope s.heap.objs.size f cd).kindOf (ps.zip us) λ_=>none) (cellsFrom (s.heap.objs.size+1) scope.names []) (bindC (envOfC qual scope s.heap.objs.size f cd).kindOf (ps.zip us) λ_=>none) s1) :
   Inv (cxOf CX P w K mg base N qual scope f cd A outer s H E) [] (start N vs) H s1:=by
 have hpl:ps.length <= N.length:=by have:=congrArg List.length S.pre;rw [List.length_take] at this;omega
 obtain ⟨h1,tk,rfl,hk⟩:=x.done
 have noA:∀ b:Addr,b ∉ (cxOf CX P w K mg base N qual scope f cd A outer s H E).ex:=λb z=>absurd (show b∈([]:List Addr) from z) (by simp)
 refine ⟨⟨e0.mod,S.kind,rfl,rfl,Nat.le_refl _,λy z c h1 h2=>?_,λy hy=>?_,λy c _ h=>?_,λ_=>hd,Around.frames_deeper e0.frames,.inr ⟨rfl,rfl⟩,λb z=>absurd z (noA b),e0.bs,e0.bsz,λb _ _=>noA b,λb z=>absurd z (noA b),e0.funs,e0.frf⟩,
   rfl,e0.bare,Un.kept hk,⟨_,x.toInCall.ns,λi y v h1 h2 h3=>?_⟩,λy c h=>⟨_,x.cell y c h⟩,e0.hok.fresh (Nat.le_refl _),λy c h=>?_,λp hp=>absurd (show p∈([]:List (Addr × Obj)) from hp) (by simp),e0.hok.kept hk,?_⟩
 · exact name_of_addr x.apart (PySem.mem_of_lookup h1) (PySem.mem_of_lookup h2)
 · have hy:scope.names.lookup y=some .cell\/scope.names.lookup y=some .free:=hy
   rcases hy with hy | hy
   · exact cell_has hy
   · exact absurd rfl (S.nofree _ (PySem.mem_of_lookup hy))
 · exact Nat.le_of_lt (x.above y c (PySem.mem_of_lookup h))
 · have hi:i < vs.length:=by
     unfold start at h2
     by_cases hi:i < vs.length
     · exact hi
     · rw [List.getElem?_append_right (by simpa using hi)] at h2
       rw [List.getElem?_replicate] at h2
       split at h2<;>cases h2
   have ha:vs[i]?=some v:=by
     unfold start at h2
     rw [List.getElem?_append_left (by simpa using hi),List.getElem?_map] at h2
     cases e:vs[i]? with
     | none=>rw [e] at h2;cases h2
     | some a=>rw [e] at h2;cases h2;rfl
   obtain ⟨u,hu,rv⟩:=r.get ha
   have hp:ps[i]?=some y:=by
     rw [← S.pre,List.getElem?_take_of_lt (by omega)];exact h1
   have ndP:ps.Nodup:=by rw [← S.pre];exact S.nd.sublist (List.take_sublist _ _)
   refine ⟨u,rv,?_⟩
   rcases S.par y (List.mem_of_getElem? hp) with k | k
   · exact .inl ⟨k,bindL_get ndP hp hu k⟩
   · obtain ⟨c,e⟩:=cell_has (n:=s.heap.objs.size+1) k
     refine .inr ⟨.inl k,c,e,?_⟩
     have q:=x.cell y c e
     rw [bindC_get ndP hp hu (by show scope.names.lookup y≠_;rw [k];decide)] at q
     exact q
 · exact e0.hok.fresh (Nat.le_of_lt (x.above y c (PySem.mem_of_lookup h)))
 · unfold start
   show _=N.length
   rw [List.length_append,List.length_map,List.length_replicate]
   omega

theorem fn_of {CX:CXT} {P:Program} {w:World} {K:PySem.W.Frag} {mg:Str->Option Value} {base:Heap} {k:Nat} {f:Addr} {name qual:Str} {params:Arguments} {body:List Stmt} {scope:Scope} {dV kV doc pm cdv ct oc:Value} {an od:Option Addr}
   {osl:Array (Option Value)} {N ps:List Str} {sp:Sp} (lk:K.lookup f=some ⟨oc,od,.func (PySem.W.fnOf name qual params body scope dV kV doc pm an cdv ct),osl⟩) (hcd:PySem.W.codeIn K cdv qual=true) (S:FnScope N ps scope)
   (len:∀ vs H Q E,sp vs H Q E->vs.length=ps.length)
   (hbody:∀ (A:Around) (outer:List Env) (s:Shared) (H:Hp) (vs:List V) (Q:VK) (E:XK),Room k (A.deeper (envOfC qual scope s.heap.objs.size f cdv))->sp vs H Q E ->
     ∃ t,PSs (cxOf CX P w K mg base N qual scope f cdv A outer s H E) body t/\t { nx:=λ_ H'=>Q .non H',rt:=Q } (start N vs) H) :
   FnOk P w K mg base CX (k+1) f (PySem.W.fnOf name qual params body scope dV kV doc pm an cdv ct) ps sp:=by
 refine ⟨len,λA outer s H args us vs Q E hr e0 hb r hsp=>?_⟩
 have hl:=len _ _ _ _ hsp
 have KX:K.In s.heap:=e0.mod.kin.keeps λb o e=>(e0.bs b o e).1
 have lim:s.heap.NoLimit:=e0.mod.nolimit.keeps λb o e=>(e0.bs b o e).1
 have hkind:∀ y∈ps.zip us,scope.names.lookup y.1=some .local\/(scope.names.lookup y.1=some .cell/\((cellsFrom (s.heap.objs.size+1) scope.names []).lookup y.1).isSome=true):=λ⟨n,v⟩ hy=>by
   rcases S.par n (List.of_mem_zip hy).1 with q | q
   · exact .inl q
   · exact .inr ⟨q,PySem.W.cellsFrom_some _ _ _ (.inl q)⟩
 refine codeAny_call_function hr.depth (KX _ _ lk) rfl S.co S.gen rfl (PySem.W.codeRec_of KX hcd) (hb _ _ _ _ ?_)
 refine wpAny_newFunctionEnv_cells S.kind hkind λenv he s1 x=>?_
 subst he
 refine ⟨lim.keeps x.toInCall.keep,codeAny_func ?_⟩
 obtain ⟨t,ht,hq⟩:=hbody A outer s H vs Q E (hr.deeper _) hsp
 have I:Inv (cxOf CX P w K mg base N qual scope f cdv A outer s H E) [] (start N vs) H s1:=inv_start S hr.hd e0 hl r x
 refine wpAny_mono (ht [] s1 (start N vs) H _ I hq) (λfl s' hs=>?_) λe s' hs=>hs
 have fin:∀ {σ':St} {H':Hp} {v:V} {u:Value},Inv (cxOf CX P w K mg base N qual scope f cdv A outer s H E) [] σ' H' s'->RelV v u->Q v H'->CE outer P w H s Q u s' :=
   λ{σ' H' v u} J rv q=>⟨v,H',J.os,J.bare,J.base,J.hok,rv,q⟩
 cases fl with
 | ret u =>
   obtain ⟨v,σ',H',J,rv,q⟩:=hs
   exact fin J rv q
 | next =>
   obtain ⟨σ',H',J,q⟩:=hs
   exact fin (v:=V.non) (u:=Value.none) J rfl q
 | brk =>
   obtain ⟨_,_,_,q⟩:=hs
   exact False.elim q
 | cont =>
   obtain ⟨_,_,_,q⟩:=hs
   exact False.elim q
end L2

namespace L2
open PySem PySem.Spec PyProof.Rows
section
variable {X:Cx} {x:Str} {p pos:Pos} {e:Expr} {es:List Expr} {t:TA} {id T:String} {r:List V->Hp->VK->Prop}

def tCB (r:List V->Hp->VK->Prop) (t:TA):TE:=λσ H Q=>t σ H λvs H1=>r vs H1 Q
theorem pe_callB (hc:CallR X (.builtin id) r) (hg:Gl X x) (hm:X.mg x=none) (hv:bootBuiltins x=some (.builtin id)) (ha:PA X (e :: es) t) (hn:x≠"__name__":=by decide) (hdb:(x == ("__debug__":Str))=false:=by decide)
   (he:starEach (e :: es) X.env=(false,eval e X.env) :: starEach es X.env:=by rfl) (hpl:(backTo pos (starEach es X.env)).any (·.1)=false:=by rfl):PE X (.Call (.Name x p) (e :: es) [] pos) (tCB r t):=by
 intro pins s σ H Q I h
 refine wpAny_Call_Name_kw (ld_blt I hg hm hv ?_ hn hdb)
 exact PyProof.Rows.callWith_builtin1 (thn (ha pos pins s σ H _ I h) λus s1 ⟨vs,H1,I1,r1,q1⟩=>hc pins s1 σ H1 vs us Q I1 r1 q1) he hpl
theorem pe_callTy (hc:CallR X (.type T) r) (hg:Gl X x) (hm:X.mg x=none) (hv:bootBuiltins x=some (.type T)) (ha:PA X (e :: es) t) (hn:x≠"__name__":=by decide) (hdb:(x == ("__debug__":Str))=false:=by decide)
   (he:starEach (e :: es) X.env=(false,eval e X.env) :: starEach es X.env:=by rfl) (hpl:(backTo pos (starEach es X.env)).any (·.1)=false:=by rfl):PE X (.Call (.Name x p) (e :: es) [] pos) (tCB r t):=by
 intro pins s σ H Q I h
 refine wpAny_Call_Name_kw (ld_blt I hg hm hv ?_ hn hdb)
 exact PyProof.Rows.callWith_type1 (thn (ha pos pins s σ H _ I h) λus s1 ⟨vs,H1,I1,r1,q1⟩=>hc pins s1 σ H1 vs us Q I1 r1 q1) he hpl
end
end L2

namespace HT
open PySem PyProof.Rows

def lexLt:List Int->List Int->Bool
 | [],[]=>false
 | [],_ :: _=>true
 | _ :: _,[]=>false
 | x :: xs,y :: ys=>if x=y then lexLt xs ys else decide (x < y)
section
open PySem.SeqAt
open PySem.AutoSeq1 (wpAny_loadPart')
open PySem.MeetsSeq PySem.MeetsSeq2 PySem.MeetsSeq3

end

section
variable {prog:Program} {w:World} {A:Around} {E:Value->Shared->Prop} {s:Shared}

def sIx (n d:Nat):Option Int->Nat
 | none=>d
 | some v=>if v < 0 then (v+(n:Int)).toNat else min v.toNat n
theorem sIx_nat (n d k:Nat):sIx n d (some (k:Int))=min k n:=by
 show (if (k:Int) < 0 then ((k:Int)+(n:Int)).toNat else min (k:Int).toNat n)=min k n
 rw [if_neg (by omega),Int.toNat_natCast]
theorem sIx_le (n d:Nat) (hd:d <= n) (o:Option Int):sIx n d o <= n:=by
 cases o with
 | none=>exact hd
 | some v =>
   show (if v < 0 then (v+(n:Int)).toNat else min v.toNat n) <= n
   by_cases hv:v < 0
   · rw [if_pos hv];omega
   · rw [if_neg hv];exact Nat.min_le_right _ _
theorem clip_eq (v:Int) (n d:Nat):(if v < 0 then max (v+(n:Int)) 0 else min v (n:Int))=((sIx n d (some v):Nat):Int):=by
 show (if v < 0 then max (v+(n:Int)) 0 else min v (n:Int))=(((if v < 0 then (v+(n:Int)).toNat else min v.toNat n):Nat):Int)
 by_cases hv:v < 0
 · simp only [if_pos hv];omega
 · simp only [if_neg hv];omega
theorem adjust_gen (lo hi:Option Int) (n:Nat):Builtin.Slice.sliceAdjust lo hi 1 (n:Int)=(((sIx n 0 lo:Nat):Int),((sIx n n hi:Nat):Int)):=by
 have h1:¬ ((1:Int) < 0):=by omega
 unfold Builtin.Slice.sliceAdjust
 simp only [h1,if_false]
 refine Prod.ext ?_ ?_
 · cases lo with
   | none=>rfl
   | some v=>exact clip_eq v n 0
 · cases hi with
   | none=>rfl
   | some v=>exact clip_eq v n n
theorem places_gen (i j:Nat):Builtin.Slice.slicePlaces (i:Int) (j:Int) 1=j - i:=by
 unfold Builtin.Slice.slicePlaces
 have h1:(1:Int) > 0:=by omega
 simp only [h1,if_true,Int.ediv_one]
 split<;>omega
theorem slicePart_ {v:Value} {o:Option Int} {Q:Option Int->Shared->Prop} (p:IsPart v o) (h:Q o s):wpAny (model prog w) A (Builtin.Slice.slicePartIndex v) Q E s:=by
 cases p with
 | none=>exact slicePart_none h
 | int i t=>exact slicePart_int h
theorem sliceApplied_gen {sl:Addr} {vl vu:Value} {lo hi:Option Int} {n:Nat} {Q:Int × Int × Nat->Shared->Prop} (hs:s.heap.IsSliceOf sl vl vu .none) (pl:IsPart vl lo) (pu:IsPart vu hi)
   (h:Q (((sIx n 0 lo:Nat):Int),1,sIx n n hi - sIx n 0 lo) s):wpAny (model prog w) A (Builtin.Slice.sliceApplied (.ref sl) (pure (n:Int))) Q E s:=by
 obtain ⟨os,hos,hcs,hds⟩:=id hs
 unfold Builtin.Slice.sliceApplied Builtin.Slice.sliceFields
 refine wpAny_bind (wpAny_bind (wpAny_field hos hds (x:=vl) rfl (wpAny_bind (wpAny_field hos hds (x:=vu) rfl (wpAny_bind (wpAny_field hos hds (x:=.none) rfl (wpAny_pure ?_)))))))
 refine wpAny_bind (slicePart_none ?_)
 show wpAny _ _ (if ((1:Int) == 0)=true then _ else _) _ _ s
 rw [if_neg (by decide)]
 refine wpAny_bind (slicePart_ pl (wpAny_bind (slicePart_ pu (wpAny_bind (wpAny_pure ?_)))))
 show wpAny _ _ (match Builtin.Slice.sliceAdjust lo hi 1 (n:Int) with | (lo,hi)=>pure (lo,(1:Int),Builtin.Slice.slicePlaces lo hi 1)) _ _ s
 rw [adjust_gen lo hi n]
 show wpAny _ _ (pure (((sIx n 0 lo:Nat):Int),(1:Int),Builtin.Slice.slicePlaces ((sIx n 0 lo:Nat):Int) ((sIx n n hi:Nat):Int) 1)) _ _ s
 rw [places_gen]
 exact wpAny_pure h
theorem pick_gen (xs:Array Value) (i k:Nat):((List.range k).filterMap λ(m:Nat)=>xs[((i:Int)+(m:Int) * 1).toNat]?).toArray=((xs.toList.drop i).take k).toArray:=by
 have e:(λ(m:Nat)=>xs[((i:Int)+(m:Int) * 1).toNat]?)=λm=>xs[i+m]?:=by
   funext m
   have:((i:Int)+(m:Int) * 1).toNat=i+m:=by omega
   rw [this]
 rw [e]
 have:=pick_run xs i k
 rw [List.filterMap_map] at this
 have e2:((λx=>xs[x]?) ∘ λx=>i+x)=λm=>xs[i+m]?:=rfl
 rw [e2] at this
 rw [this]

theorem getItem_tuple_cut {t sl:Addr} {items:Array Value} {vl vu:Value} {lo hi:Option Int} {Q:Value->Shared->Prop} (ht:IsTup s.heap t items) (hs:s.heap.IsSliceOf sl vl vu .none) (pl:IsPart vl lo) (pu:IsPart vu hi)
   (hw:¬ (sIx items.size 0 lo=0/\sIx items.size items.size hi=items.size))
   (h:Q (.ref s.heap.objs.size) { s with heap:=s.heap.push { cls:=.type "tuple",data:=.seq ((items.toList.drop (sIx items.size 0 lo)).take (sIx items.size items.size hi - sIx items.size 0 lo)).toArray } })
   (hsz:items.size <= sizeLine):wpAny (model prog w) A (getItem (.ref t) (.ref sl)) Q E s:=by
 have htake:sizeOk (.seq ((items.toList.drop (sIx items.size 0 lo)).take (sIx items.size items.size hi - sIx items.size 0 lo)).toArray):=by
   show ((items.toList.drop (sIx items.size 0 lo)).take (sIx items.size items.size hi - sIx items.size 0 lo)).toArray.size <= sizeLine
   rw [List.size_toArray,List.length_take,List.length_drop,Array.length_toList]
   omega
 have hj:sIx items.size items.size hi <= items.size:=sIx_le _ _ (Nat.le_refl _) hi
 obtain ⟨os,hos,hcs,hds⟩:=id hs
 have hTs:s.TypeIs (.ref sl) "slice":=⟨os,hos,hcs⟩
 unfold getItem
 try with_reducible refine wpAny_holding ?_
 first | refine wpAny_bind (wpAny_pure ?_) | skip
 refine wpAny_bind (wpAny_sequenceKey ht.typeIs (by decide) ?_)
 refine wpAny_bind (wpAny_callSpecial?_slot (name:=Str.ofString "__getitem__") ht.typeIs PyProof.Rows.slot_tuple_getitem
   (wpAny_call_entry PyProof.Rows.slot_tuple_getitem ht.typeIs entry_tuple_getitem ?_ (args_tuple_getitem _ _)))
 show wpAny _ _ (Builtin.Tuple.tupleItemsOf (.ref t) >>= _) _ _ s
 refine wpAny_bind (tupleItemsOf_ ht ?_)
 refine wpAny_bind (wpAny_typeOf hTs ?_)
 rw [if_pos (by decide)]
 refine wpAny_bind (sliceApplied_gen hs pl pu ?_)
 have hno:¬ ((((sIx items.size 0 lo:Nat):Int) == 0 && (1:Int) == 1 && (sIx items.size items.size hi - sIx items.size 0 lo) == items.size)=true):=by
   intro q
   rw [Bool.and_eq_true,Bool.and_eq_true] at q
   have q1:((sIx items.size 0 lo:Nat):Int)=0:=eq_of_beq q.1.1
   have q2:sIx items.size items.size hi - sIx items.size 0 lo=items.size:=eq_of_beq q.2
   exact hw ⟨by omega,by omega⟩
 show wpAny _ _ (if (((sIx items.size 0 lo:Nat):Int) == 0 && (1:Int) == 1 && (sIx items.size items.size hi - sIx items.size 0 lo) == items.size)=true then _ else _) _ _ s
 rw [if_neg hno,pick_gen]
 first
   | exact wpAny_bind (m:=Builtin.Tuple.tupleExact _) (wpAny_newObj_type (wpAny_pure ⟨_,rfl,wpAny_pure h⟩) htake)
   | exact wpAny_bind (m:=Builtin.Tuple.tupleExact _) (wpAny_newObj_type (wpAny_bind (wpAny_pure (wpAny_pure ⟨_,rfl,wpAny_pure h⟩))) htake)
   | exact wpAny_bind (wpAny_bind (m:=Builtin.Tuple.tupleExact _) (wpAny_newObj_type (wpAny_pure (wpAny_pure ⟨_,rfl,wpAny_pure h⟩)) htake))
   | exact wpAny_bind (wpAny_bind (m:=Builtin.Tuple.tupleExact _) (wpAny_newObj_type (wpAny_pure ⟨_,rfl,wpAny_pure h⟩) htake))
end
end HT

namespace L2
open PySem PySem.Spec PyProof.Rows

abbrev TO:=St->Hp->(Option Int->Hp->Prop)->Prop
def PO (X:Cx) (e:Option Expr) (t:TO):Prop :=
 ∀ (pins:List (Addr × Obj)) (s:Shared) (σ:St) (H:Hp) (Q:Option Int->Hp->Prop),Inv X pins σ H s->t σ H Q ->
   wpAny (model X.prog X.w) X.A (evalPart e X.env) (λu s'=>∃ o H',Inv X pins σ H' s'/\IsPart u o/\Q o H') X.xe s
def tNoPart:TO:=λ_ H Q=>Q none H
def tPart (t:TE):TO:=λσ H Q=>t σ H λx H1=>∃ i,x=.int i/\Q (some i) H1

theorem intsAre_of {ns:List Int}:∀ {us:List Value},Vals (ns.map V.int) us->IntsAre us ns:=by
 induction ns with
 | nil=>intro us r;rw [List.map_nil] at r;cases r;exact .nil
 | cons n ns ih =>
   intro us r
   rw [List.map_cons] at r
   cases r with
   | cons r1 r2 =>
     obtain ⟨t,e⟩:=r1
     subst e
     exact .cons n t (ih r2)

section
variable {X:Cx} {e:Expr} {te:TE} {lo hi:Option Expr} {tl th:TO} {pos p2:Pos}

theorem po_none:PO X none tNoPart:=by
 intro pins s σ H Q I h
 rw [evalPart_none]
 exact wpAny_pure ⟨none,H,I,.none,h⟩
theorem po_some (h:PE X e te):PO X (some e) (tPart te):=by
 intro pins s σ H Q I hw
 rw [evalPart_some]
 refine thn (h pins s σ H _ I hw) λu s1 ⟨x,H1,I1,r1,q1⟩=>?_
 obtain ⟨i,rfl,q⟩:=q1
 obtain ⟨t,rfl⟩:=r1
 exact ⟨some i,H1,I1,.int i t,q⟩

def SlR (X:Cx) (r:V->Option Int->Option Int->Hp->VK->Prop):Prop :=
 ∀ (pins:List (Addr × Obj)) (s:Shared) (σ:St) (H:Hp) (x:V) (v vl vu:Value) (lo hi:Option Int) (sl:Addr) (Q:VK),Inv X pins σ H s->RelV x v->s.heap.IsSliceOf sl vl vu .none->IsPart vl lo->IsPart vu hi->r x lo hi H Q ->
   ∃ T id,typeLookup (.type T) "__getitem__"=pure (some (.builtin id))/\s.TypeIs v T/\wpAny (model X.prog X.w) X.A (getItem v (.ref sl)) (EP X pins σ Q) X.xe s
theorem SlR.or {r r':V->Option Int->Option Int->Hp->VK->Prop} (h:SlR X r) (h':SlR X r'):SlR X (λx lo hi H Q=>r x lo hi H Q\/r' x lo hi H Q):=by
 intro pins s σ H x v vl vu lo hi sl Q I rx hs pl pu q
 rcases q with q | q
 · exact h pins s σ H x v vl vu lo hi sl Q I rx hs pl pu q
 · exact h' pins s σ H x v vl vu lo hi sl Q I rx hs pl pu q
def tSl (r:V->Option Int->Option Int->Hp->VK->Prop) (te:TE) (tl th:TO):TE:=λσ H Q=>te σ H λx H1=>tl σ H1 λl H2=>th σ H2 λu H3=>r x l u H3 Q
theorem pe_slice {r:V->Option Int->Option Int->Hp->VK->Prop} (hr:SlR X r) (he:PE X e te) (hl:PO X lo tl) (hu:PO X hi th):PE X (.Subscript e (.Slice lo hi none p2) pos) (tSl r te tl th):=by
 intro pins s σ H Q I h
 refine Subscript_ (thn (he pins s σ H _ I h) λv s1 ⟨x,H1,I1,r1,q1⟩=>?_)
 refine wpAny_Slice (thn (hl pins s1 σ H1 _ I1 q1) λvl s2 ⟨l,H2,I2,pl,q2⟩=>thn (hu pins s2 σ H2 _ I2 q2) λvu s3 ⟨u,H3,I3,pu,q3⟩=>?_)
 rw [evalPart_none]
 refine wpAny_pure ?_
 have I4:Inv X pins σ H3 { s3 with heap:=s3.heap.push { cls:=.type "slice",data:=.fields #[vl,vu,.none] } }:=I3.kept (t':=s3.toks) λb ob q=>Heap.get?_push_of_some _ q
 obtain ⟨T,id,hT,ht,hg⟩:=hr pins { s3 with heap:=s3.heap.push { cls:=.type "slice",data:=.fields #[vl,vu,.none] } } σ H3 x v vl vu l u s3.heap.objs.size Q I4 r1 (Heap.IsSliceOf.new ..) pl pu q3
 show wpAny (model X.prog X.w) X.A (subscriptTail e (.Slice lo hi none p2) v (.ref s3.heap.objs.size)) (EP X pins σ Q) X.xe { s3 with heap:=s3.heap.push { cls:=.type "slice",data:=.fields #[vl,vu,.none] } }
 exact tail_any (ops:=[.ref s3.heap.objs.size,v]) ht hT hg (by with_unfolding_all rfl)

def cutV (xs:List V) (lo hi:Option Int):List V:=(xs.drop (HT.sIx xs.length 0 lo)).take (HT.sIx xs.length xs.length hi - HT.sIx xs.length 0 lo)
theorem cutV_length (xs:List V) (lo hi:Option Int):(cutV xs lo hi).length <= xs.length:=by
 unfold cutV
 rw [List.length_take,List.length_drop]
 omega
def rSlT (K:PySem.W.Frag):V->Option Int->Option Int->Hp->VK->Prop:=λx lo hi H Q=>∃ a xs,x=.ref a/\SqT K H a xs /\
 ¬ (HT.sIx xs.length 0 lo=0/\HT.sIx xs.length xs.length hi=xs.length)/\∀ p,H p=none->Q (.ref p) (upd H p (.tup (cutV xs lo hi)))
theorem sl_tup:SlR X (rSlT X.K):=by
 intro pins s σ H x v vl vu lo hi sl Q I rx hs pl pu h
 obtain ⟨a,xs,rfl,hx,hw,q⟩:=h
 cases rx
 obtain ⟨its,r,ht,hz⟩:=I.tuple hx
 have hlen:its.toArray.size=xs.length:=by rw [List.size_toArray];exact r.length.symm
 refine ⟨"tuple",_,PyProof.Rows.slot_tuple_getitem.lookup,ht.typeIs,?_⟩
 refine HT.getItem_tuple_cut ht hs pl pu (by rw [hlen];exact hw) ?_ (by rw [hlen];exact hz)
 rw [hlen]
 refine ⟨.ref s.heap.objs.size,_,I.laid (t':=s.toks) (o:=.tup (cutV xs lo hi)) (λb ob q=>Heap.get?_push_of_some _ q) (Nat.le_refl _) ?_,rfl,q _ (I.hok.fresh (Nat.le_refl _))⟩
 exact ⟨Nat.le_trans (cutV_length xs lo hi) hz,_,(r.drop (HT.sIx xs.length 0 lo)).take (HT.sIx xs.length xs.length hi - HT.sIx xs.length 0 lo),IsTup.new _ _⟩

def rLtT (K:PySem.W.Frag):R2:=λx y H Q=>∃ a b ns ms,x=.ref a/\y=.ref b/\SqT K H a (ns.map V.int)/\SqT K H b (ms.map V.int)/\Q (.bl (HT.lexLt ns ms)) H
def rCatT (K:PySem.W.Frag):R2:=λx y H Q=>∃ a b xs ys,x=.ref a/\y=.ref b/\SqT K H a xs/\SqT K H b ys/\xs≠[]/\xs.length+ys.length <= sizeLine /\
 (ys=[]->Q (.ref a) H)/\(ys≠[]->∀ p,H p=none->Q (.ref p) (upd H p (.tup (xs++ys))))
end
end L2

namespace L2
open PySem PySem.Spec PyProof.Rows

def ixN (n:Nat) (i:Int):Option Nat:=if 0 <= i then (if i < n then some i.toNat else none) else if -(n:Int) <= i then some (i+n).toNat else none
def atI {α:Type} (xs:List α) (i:Int):Option α:=(ixN xs.length i).bind λj=>xs[j]?
theorem ixN_seq {n:Nat} {i:Int} {j:Nat} (h:ixN n i=some j):seqIndex? i n=some j/\j < n/\-(n:Int) <= i/\i < n:=by
 unfold ixN at h
 by_cases h0:0 <= i
 · rw [if_pos h0] at h
   by_cases h1:i < n
   · rw [if_pos h1] at h
     have e:i.toNat=j:=Option.some.inj h
     exact ⟨by rw [seqIndex_of h0 h1,e],by omega,by omega,h1⟩
   · rw [if_neg h1] at h;cases h
 · rw [if_neg h0] at h
   by_cases h1:-(n:Int) <= i
   · rw [if_pos h1] at h
     have e:(i+n).toNat=j:=Option.some.inj h
     exact ⟨by rw [seqIndex_neg (by omega) h1,e],by omega,h1,by omega⟩
   · rw [if_neg h1] at h;cases h
theorem atI_get {α:Type} {xs:List α} {i:Int} {v:α} (h:atI xs i=some v):∃ j,seqIndex? i xs.length=some j/\xs[j]?=some v/\j < xs.length/\-(xs.length:Int) <= i/\i < xs.length:=by
 unfold atI at h
 cases e:ixN xs.length i with
 | none=>rw [e] at h;cases h
 | some j =>
   rw [e] at h
   obtain ⟨h1,h2,h3,h4⟩:=ixN_seq e
   exact ⟨j,h1,h,h2,h3,h4⟩
theorem atI_nat {α:Type} {xs:List α} {j:Nat} {v:α} (h:xs[j]?=some v):atI xs (j:Int)=some v:=by
 have hj:j < xs.length:=(List.getElem?_eq_some_iff.mp h).1
 have e:ixN xs.length (j:Int)=some j:=by
   unfold ixN
   rw [if_pos (by omega),if_pos (by omega)];simp
 unfold atI;rw [e];exact h
def PlainIx (b:Expr):Prop:=∀ o i,subscripted b false o i=operate [o,i] (getItem o i)
def IxR (X:Cx) (r:R2):Prop :=
 ∀ (value slice:Expr) (pins:List (Addr × Obj)) (s:Shared) (σ:St) (H:Hp) (x y:V) (v u:Value) (Q:VK),Inv X pins σ H s->RelV x v->RelV y u->r x y H Q ->
   subscripted slice false v u=operate [v,u] (getItem v u)->wpAny (model X.prog X.w) X.A (subscriptTail value slice v u) (EP X pins σ Q) X.xe s
def MtR (X:Cx) (id:String) (r:V->List V->Hp->VK->Prop):Prop :=
 ∀ (pins:List (Addr × Obj)) (s:Shared) (σ:St) (H:Hp) (x:V) (xs:List V) (v:Value) (us:List Value) (Q:VK),Inv X pins σ H s->RelV x v->Vals xs us->r x xs H Q ->
   wpAny (model X.prog X.w) X.A (call (.builtin id) (v :: us)) (EP X pins σ Q) X.xe s
section
variable {X:Cx} {a b:Expr} {ta tb:TE} {pos:Pos}
theorem IxR.or {r r':R2} (h:IxR X r) (h':IxR X r'):IxR X (λx y H Q=>r x y H Q\/r' x y H Q):=by
 intro value slice pins s σ H x y v u Q I rx ry q hs
 rcases q with q | q
 · exact h value slice pins s σ H x y v u Q I rx ry q hs
 · exact h' value slice pins s σ H x y v u Q I rx ry q hs
theorem MtR.or {id:String} {r r':V->List V->Hp->VK->Prop} (h:MtR X id r) (h':MtR X id r'):MtR X id (λx xs H Q=>r x xs H Q\/r' x xs H Q):=by
 intro pins s σ H x xs v us Q I rx rs q
 rcases q with q | q
 · exact h pins s σ H x xs v us Q I rx rs q
 · exact h' pins s σ H x xs v us Q I rx rs q
theorem pe_ix {r:R2} (hr:IxR X r) (ha:PE X a ta) (hb:PE X b tb) (hs:PlainIx b):PE X (.Subscript a b pos) (tOp r ta tb):=by
 intro pins s σ H Q I h
 exact Subscript_ (binT ha hb I h λv u s2 x y H2 I2 rx ry q=>hr a b pins s2 σ H2 x y v u Q I2 rx ry q (hs _ _))

def rIxL (K:PySem.W.Frag):R2:=λx y H Q=>∃ p xs i v,x=.ref p/\y=.int i/\SqL K H p xs/\atI xs i=some v/\Q v H
def rIxT (K:PySem.W.Frag):R2:=λx y H Q=>∃ p xs i v,x=.ref p/\y=.int i/\SqT K H p xs/\atI xs i=some v/\Q v H
def rIxS:R2:=λx y H Q=>∃ z i c,x=.str z/\y=.int i/\z.length <= sizeLine/\atI z.cps.toList i=some c/\Q (.str ⟨#[c]⟩) H
theorem ix_list:IxR X (rIxL X.K):=by
 intro value slice pins s σ H x y v u Q I rx ry h hs
 obtain ⟨p,xs,i,z,rfl,rfl,hq,he,q⟩:=h
 cases rx
 obtain ⟨t,rfl⟩:=ry
 obtain ⟨its,r,pl,hz⟩:=I.list hq
 obtain ⟨j,h1,h2,h3,h4,h5⟩:=atI_get he
 obtain ⟨w,ew,rw'⟩:=r.get h2
 have hl:=r.length
 have hn:=line63
 have fin:EP X pins σ Q w s:=⟨z,H,I,rw',q⟩
 by_cases h0:0 <= i
 · have hj:i.toNat=j:=by
     rw [seqIndex_of h0 h5] at h1
     exact Option.some.inj h1
   exact item_listR pl.isList h0 (by omega) (by rw [hj];simpa using ew) fin hs
 · have hj:(i+(its.toArray.size:Int)).toNat=j:=by
     rw [seqIndex_neg (by omega) h4] at h1
     rw [List.size_toArray,← hl]
     exact Option.some.inj h1
   exact subscriptTail_builtinR (x:=w) pl.isList.typeIs slot_list_getitem.lookup
     (wpAny_getItem_list_neg (Q:=λr s'=>r=w/\EP X pins σ Q r s') pl.isList (by omega) (by rw [List.size_toArray]<;>omega) (by omega) (by rw [hj];simpa using ew) ⟨rfl,fin⟩) hs
theorem ix_tup:IxR X (rIxT X.K):=by
 intro value slice pins s σ H x y v u Q I rx ry h hs
 obtain ⟨p,xs,i,z,rfl,rfl,hq,he,q⟩:=h
 cases rx
 obtain ⟨t,rfl⟩:=ry
 obtain ⟨its,r,pl,hz⟩:=I.tuple hq
 obtain ⟨j,h1,h2,h3,h4,h5⟩:=atI_get he
 obtain ⟨w,ew,rw'⟩:=r.get h2
 have hl:=r.length
 have hn:=line63
 have fin:EP X pins σ Q w s:=⟨z,H,I,rw',q⟩
 exact subscriptTail_builtinR (x:=w) pl.typeIs slot_tuple_getitem.lookup
   (getItem_tuple (j:=j) (Q:=λr s'=>r=w/\EP X pins σ Q r s') pl (by omega) (by omega) (by rw [List.size_toArray,← hl];exact h1) (by simpa using ew) ⟨rfl,fin⟩) hs
def rIx (K:PySem.W.Frag):R2:=λx y H Q=>rIxL K x y H Q\/rIxT K x y H Q\/rIxS x y H Q
theorem mapSeq_set (its:List Value) (n j:Nat) (u:Value):Obj.mapSeq (·.setIfInBounds j u) { cls:=.type "list",data:=.seq its.toArray n }={ cls:=.type "list",data:=.seq (its.set j u).toArray n }:=by
 simp [Obj.mapSeq]
theorem Inv.lst {pins:List (Addr × Obj)} {σ:St} {H:Hp} {s:Shared} {p:Addr} {xs:List V} (I:Inv X pins σ H s) (h:H p=some (.lst xs)) :
   ∃ (its:List Value) (n:Nat),Vals xs its/\s.heap.get? p=some { cls:=.type "list",data:=.seq its.toArray n }/\xs.length <= sizeLine:=by
 obtain ⟨z,its,n,r,e⟩:=I.hok p _ h
 exact ⟨its,n,r,e,z⟩
theorem Inv.lstUpd {pins:List (Addr × Obj)} {σ:St} {H:Hp} {s:Shared} {p:Addr} {xs ys:List V} {its its':List Value} {n n':Nat} {f:Obj->Obj} (I:Inv X pins σ H s) (h:H p=some (.lst xs))
   (ho:s.heap.get? p=some { cls:=.type "list",data:=.seq its.toArray n }) (hf:f { cls:=.type "list",data:=.seq its.toArray n }={ cls:=.type "list",data:=.seq its'.toArray n' }) (r:Vals ys its') (hz:ys.length <= sizeLine) (t:Nat) :
   Inv X pins σ (upd H p (.lst ys)) { s with heap:=s.heap.update p f,toks:=t }:=by
 have e:(s.heap.update p f).get? p=some { cls:=.type "list",data:=.seq its'.toArray n' }:=by
   rw [Heap.get?_update_self f ho (by rw [hf]<;>rfl),hf]
 refine I.write (x:=p) (e:=p) (by rw [h];trivial) (.inl rfl) (λb u hb q=>(Heap.get?_update_other _ _ (Ne.symm hb)).trans q) ⟨_,e⟩ ?_
 exact ⟨hz,its',n',r,e⟩
def rSetL:V->V->V->Hp->(Hp->Prop)->Prop:=λo i v H Q=>∃ p xs k j,o=.ref p/\i=.int k/\H p=some (.lst xs)/\ixN xs.length k=some j/\Q (upd H p (.lst (xs.set j v)))
theorem set_list:PSet X rSetL:=by
 intro pins s σ H o i v ov iv u Q I ro ri rv h
 obtain ⟨p,xs,k,j,rfl,rfl,hp,hj,q⟩:=h
 cases ro
 obtain ⟨t,rfl⟩:=ri
 obtain ⟨its,n,r,ho,hz⟩:=I.lst hp
 obtain ⟨h1,h2,h3,h4⟩:=ixN_seq hj
 have hl:=r.length
 have hn:=line63
 have I':Inv X pins σ (upd H p (.lst (xs.set j v))) { s with heap:=s.heap.update p (Obj.mapSeq (·.setIfInBounds j u)) } :=
   I.lstUpd hp ho (mapSeq_set its n j u) (r.set rv j) (by rw [List.length_set];exact hz) s.toks
 by_cases h0:0 <= k
 · have hk:k.toNat=j:=by
     rw [seqIndex_of h0 h4] at h1
     exact Option.some.inj h1
   exact PySem.W.ki_setAt ho h0 (by omega) (by rw [List.size_toArray,← hl];exact h4) (by rw [hk];exact ⟨_,I',q⟩)
 · have hk:(k+(its.toArray.size:Int)).toNat=j:=by
     rw [seqIndex_neg (by omega) h3] at h1
     rw [List.size_toArray,← hl]
     exact Option.some.inj h1
   exact PySem.W.ki_setBack ho (by omega) (by rw [List.size_toArray,← hl];exact h3) (by omega) (by rw [hk];exact ⟨_,I',q⟩)

theorem slice_bounds (lo hi:Option Int) (n:Nat):(sliceBounds lo hi none n).1=((HT.sIx n 0 lo:Nat):Int)/\(sliceBounds lo hi none n).2.1=((HT.sIx n n hi:Nat):Int)/\(sliceBounds lo hi none n).2.2=1:=by
 refine ⟨?_,?_,rfl⟩
 · cases lo with
   | none=>simp [sliceBounds,HT.sIx]
   | some i =>
     simp only [sliceBounds,HT.sIx,Option.getD_none,show (1:Int) > 0 by decide,if_true]
     by_cases h:i < 0
     · simp only [h,if_true]<;>omega
     · simp only [h,if_false]<;>omega
 · cases hi with
   | none=>simp [sliceBounds,HT.sIx]
   | some i =>
     simp only [sliceBounds,HT.sIx,Option.getD_none,show (1:Int) > 0 by decide,if_true]
     by_cases h:i < 0
     · simp only [h,if_true]<;>omega
     · simp only [h,if_false]<;>omega
theorem slicePick_cut (its:List Value) (lo hi:Option Int):slicePick its.toArray lo hi none=((its.drop (HT.sIx its.length 0 lo)).take (HT.sIx its.length its.length hi - HT.sIx its.length 0 lo)).toArray:=by
 obtain ⟨h1,h2,h3⟩:=slice_bounds lo hi its.toArray.size
 unfold slicePick
 rw [h1,h2,h3]
 simp only [sliceRange_one,pick_run,List.size_toArray]<;>rfl
def rSlL (K:PySem.W.Frag):V->Option Int->Option Int->Hp->VK->Prop:=λx lo hi H Q=>∃ a xs,x=.ref a/\SqL K H a xs/\∀ p,H p=none->Q (.ref p) (upd H p (.lst (cutV xs lo hi)))
theorem sl_list:SlR X (rSlL X.K):=by
 intro pins s σ H x v vl vu lo hi sl Q I rx hs pl pu h
 obtain ⟨a,xs,rfl,hx,q⟩:=h
 cases rx
 obtain ⟨its,r,ht,hz⟩:=I.list hx
 have hlen:=r.length
 refine ⟨"list",_,slot_list_getitem.lookup,ht.isList.typeIs,?_⟩
 refine wpAny_getItem_list_slice ht.isList hs pl pu .none (by simp) ?_ (by rw [List.size_toArray]<;>omega)
 rw [slicePick_cut,← hlen]
 refine ⟨.ref s.heap.objs.size,_,I.laid (t':=s.toks) (o:=.lst (cutV xs lo hi)) (λb ob q=>Heap.get?_push_of_some _ q) (Nat.le_refl _) ?_,rfl,q _ (I.hok.fresh (Nat.le_refl _))⟩
 exact ⟨Nat.le_trans (cutV_length xs lo hi) hz,_,0,(r.drop (HT.sIx xs.length 0 lo)).take (HT.sIx xs.length xs.length hi - HT.sIx xs.length 0 lo),Heap.get?_push_size _ rfl⟩

def flatV:V->Bool
 | .non=>true
 | .bl _=>true
 | .int _=>true
 | .str _=>true
 | _=>false
def eqV:V->V->Bool
 | .non,.non=>true
 | .bl a,.bl b=>a == b
 | .bl a,.int b=>(if a then 1 else 0) == b
 | .int a,.bl b=>a == (if b then 1 else 0)
 | .int a,.int b=>a == b
 | .str a,.str b=>a == b
 | _,_=>false
theorem eqAt_V {A:Around} {s:Shared} {y x:V} {u v:Value} (ry:RelV y u) (rx:RelV x v) (fy:flatV y=true) (fx:flatV x=true):SeqAt.EqAt A s u v (eqV y x):=by
 cases y with
 | non =>
   cases ry
   cases x with
   | non=>cases rx;exact SeqAt.EqAt.same _
   | bl b=>cases rx;exact SeqAt.EqAt.none_bool b
   | int b=>obtain ⟨t,rfl⟩:=rx;exact SeqAt.EqAt.none_int b t
   | str b=>obtain ⟨t,rfl⟩:=rx;exact SeqAt.EqAt.none_str b t
   | _=>exact absurd (show false=true from fx) Bool.false_ne_true
 | bl a =>
   cases ry
   cases x with
   | non=>cases rx;exact SeqAt.EqAt.bool_none a
   | bl b=>cases rx;exact SeqAt.EqAt.bool_bool a b
   | int b=>obtain ⟨t,rfl⟩:=rx;exact SeqAt.EqAt.bool_int a b t
   | str b=>obtain ⟨t,rfl⟩:=rx;exact SeqAt.EqAt.bool_str a b t
   | _=>exact absurd (show false=true from fx) Bool.false_ne_true
 | int a =>
   obtain ⟨t',rfl⟩:=ry
   cases x with
   | non=>cases rx;exact SeqAt.EqAt.int_none a t'
   | bl b=>cases rx;exact SeqAt.EqAt.int_bool a t' b
   | int b=>obtain ⟨t,rfl⟩:=rx;exact SeqAt.EqAt.int_int a t' b t
   | str b=>obtain ⟨t,rfl⟩:=rx;exact SeqAt.EqAt.int_str a t' b t
   | _=>exact absurd (show false=true from fx) Bool.false_ne_true
 | str a =>
   obtain ⟨t',rfl⟩:=ry
   cases x with
   | non=>cases rx;exact SeqAt.EqAt.str_none a t'
   | bl b=>cases rx;exact SeqAt.EqAt.str_bool a t' b
   | int b=>obtain ⟨t,rfl⟩:=rx;exact SeqAt.EqAt.str_int a t' b t
   | str b=>obtain ⟨t,rfl⟩:=rx;exact SeqAt.EqAt.str_str a t' b t
   | _=>exact absurd (show false=true from fx) Bool.false_ne_true
 | _=>exact absurd (show false=true from fy) Bool.false_ne_true
def eqU (x:V) (u:Value):Bool:=match u with
 | .none=>eqV .non x
 | .bool b=>eqV (.bl b) x
 | .int i _=>eqV (.int i) x
 | .str z _=>eqV (.str z) x
 | _=>false
theorem eqU_of {x y:V} {u:Value} (r:RelV y u) (f:flatV y=true):eqU x u=eqV y x:=by
 cases y with
 | non=>cases r;rfl
 | bl b=>cases r;rfl
 | int i=>obtain ⟨t,rfl⟩:=r;rfl
 | str z=>obtain ⟨t,rfl⟩:=r;rfl
 | _=>exact absurd (show false=true from f) Bool.false_ne_true
theorem any_eqU {x:V}:∀ {xs:List V} {us:List Value},Vals xs us->xs.all flatV=true->us.any (eqU x)=xs.any λy=>eqV y x
 | _,_,.nil,_=>rfl
 | y :: xs,u :: us,.cons r t,f=>by
   rw [List.all_cons,Bool.and_eq_true] at f
   rw [List.any_cons,List.any_cons,eqU_of r f.1,any_eqU t f.2]
theorem mem_eqAt {A:Around} {s:Shared} {x:V} {v:Value} (rx:RelV x v) (fx:flatV x=true):∀ {xs:List V} {us:List Value},Vals xs us->xs.all flatV=true->∀ u∈us,SeqAt.EqAt A s u v (eqU x u)
 | _,_,.nil,_=>λu hu=>by cases hu
 | y :: xs,u :: us,.cons r t,f=>λu' hu=>by
   rw [List.all_cons,Bool.and_eq_true] at f
   rcases List.mem_cons.mp hu with rfl | hu
   · rw [eqU_of r f.1];exact eqAt_V r rx f.1 fx
   · exact mem_eqAt rx fx t f.2 u' hu
def inV (x:V) (xs:List V):Bool:=xs.any λy=>eqV y x
def rIn (K:PySem.W.Frag) (neg:Bool):R2:=λx y H Q=>∃ p xs,y=.ref p/\(SqL K H p xs\/SqT K H p xs)/\flatV x=true/\xs.all flatV=true/\Q (.bl (if neg then !inV x xs else inV x xs)) H
theorem op_in_seq:OpR X (compareOp .In) (rIn X.K false):=by
 intro pins s σ H x y v u Q I rx ry h
 obtain ⟨p,xs,rfl,hq,fx,fs,q⟩:=h
 cases ry
 rcases hq with hq | hq
 · obtain ⟨its,r,pl,hz⟩:=I.list hq
   refine SeqAt.in_listAt (eqU x) pl.isList (λw hw=>mem_eqAt rx fx r fs w (by simpa using hw)) ⟨.bl _,H,I,rfl,?_⟩
   rw [show its.toArray.any (eqU x)=its.any (eqU x) by simp,any_eqU r fs]
   exact q
 · obtain ⟨its,r,pl,hz⟩:=I.tuple hq
   refine SeqAt.in_tupleAt (eqU x) pl (λw hw=>mem_eqAt rx fx r fs w (by simpa using hw)) ⟨.bl _,H,I,rfl,?_⟩
   rw [show its.toArray.any (eqU x)=its.any (eqU x) by simp,any_eqU r fs]
   exact q
theorem op_notIn_seq:OpR X (compareOp .NotIn) (rIn X.K true):=by
 intro pins s σ H x y v u Q I rx ry h
 obtain ⟨p,xs,rfl,hq,fx,fs,q⟩:=h
 cases ry
 rcases hq with hq | hq
 · obtain ⟨its,r,pl,hz⟩:=I.list hq
   refine SeqAt.notIn_listAt (eqU x) pl.isList (λw hw=>mem_eqAt rx fx r fs w (by simpa using hw)) ⟨.bl _,H,I,rfl,?_⟩
   rw [show its.toArray.any (eqU x)=its.any (eqU x) by simp,any_eqU r fs]
   exact q
 · obtain ⟨its,r,pl,hz⟩:=I.tuple hq
   refine SeqAt.notIn_tupleAt (eqU x) pl (λw hw=>mem_eqAt rx fx r fs w (by simpa using hw)) ⟨.bl _,H,I,rfl,?_⟩
   rw [show its.toArray.any (eqU x)=its.any (eqU x) by simp,any_eqU r fs]
   exact q
theorem call_len_seq:CallR X (.builtin "len") (λxs H Q=>∃ p ys,xs=[.ref p]/\(SqL X.K H p ys\/SqT X.K H p ys)/\Q (.int ys.length) H):=by
 intro pins s σ H xs us Q I r h
 obtain ⟨p,ys,rfl,hq,q⟩:=h
 obtain ⟨u,rfl,rx⟩:=vals1 r
 cases rx
 have hn:=line63
 rcases hq with hq | hq
 · obtain ⟨its,r',pl,hz⟩:=I.list hq
   have hlen:=r'.length
   exact Calls.call_len_list pl.isList (by simp only [List.size_toArray]<;>omega) ⟨.int ys.length,H,I.tok _,⟨s.toks+1,by rw [List.size_toArray,hlen]⟩,q⟩
 · obtain ⟨its,r',pl,hz⟩:=I.tuple hq
   have hlen:=r'.length
   exact len_tuple pl (by simp only [List.size_toArray]<;>omega) ⟨.int ys.length,H,I.tok _,⟨s.toks+1,by rw [List.size_toArray,hlen]⟩,q⟩
theorem CallR.or {f:Value} {r r':List V->Hp->VK->Prop} (h:CallR X f r) (h':CallR X f r'):CallR X f (λxs H Q=>r xs H Q\/r' xs H Q):=by
 intro pins s σ H xs us Q I rs q
 rcases q with q | q
 · exact h pins s σ H xs us Q I rs q
 · exact h' pins s σ H xs us Q I rs q
theorem call_list_of:CallR X (.type "list") (λxs H Q=>∃ p ys,xs=[.ref p]/\(SqL X.K H p ys\/SqT X.K H p ys)/\∀ l,H l=none->Q (.ref l) (upd H l (.lst ys))):=by
 intro pins s σ H xs us Q I r h
 obtain ⟨p,ys,rfl,hq,q⟩:=h
 obtain ⟨u,rfl,rx⟩:=vals1 r
 cases rx
 have fin:∀ (its:List Value),Vals ys its->ys.length <= sizeLine->∀ (h':Heap) (c':Nat),(∀ b o',s.heap.get? b=some o'->h'.get? b=some o') ->
     h'.get? s.heap.objs.size=some { cls:=.type "list",dict:=none,data:=.seq its.toArray c',slots:=#[] }->EP X pins σ Q (.ref s.heap.objs.size) { s with heap:=h' }:=λits r' hz h' c' kp e =>
   ⟨.ref s.heap.objs.size,_,I.laid (t':=s.toks) kp (Nat.le_refl _) (show ObjOk X.prog X.w _ h' _ (.lst ys) from ⟨hz,its,c',r',e⟩),rfl,q _ (I.hok.fresh (Nat.le_refl _))⟩
 rcases hq with hq | hq
 · obtain ⟨its,r',pl,hz⟩:=I.list hq
   have hlen:=r'.length
   obtain ⟨o,ho,hc,n,hd⟩:=pl.isList
   exact call_list_seq p (.inl rfl) ho hc hd (λh' c' kp e=>fin its r' hz h' c' kp e) (by simp only [List.size_toArray]<;>omega)
 · obtain ⟨its,r',pl,hz⟩:=I.tuple hq
   have hlen:=r'.length
   obtain ⟨o,ho,hc,n,hd⟩:=pl
   exact call_list_seq p (.inr rfl) ho hc hd (λh' c' kp e=>fin its r' hz h' c' kp e) (by simp only [List.size_toArray]<;>omega)
theorem call_tuple_of:CallR X (.type "tuple") (λxs H Q=>∃ p ys,xs=[.ref p]/\((SqL X.K H p ys/\∀ l,H l=none->Q (.ref l) (upd H l (.tup ys)))\/(SqT X.K H p ys/\Q (.ref p) H))):=by
 intro pins s σ H xs us Q I r h
 obtain ⟨p,ys,rfl,h⟩:=h
 obtain ⟨u,rfl,rx⟩:=vals1 r
 cases rx
 rcases h with ⟨hq,q⟩ | ⟨hq,q⟩
 · obtain ⟨its,r',pl,hz⟩:=I.list hq
   have hlen:=r'.length
   refine call_tuple_list pl.isList (λh' kp=>?_) (by simp only [List.size_toArray]<;>omega)
   have I1:Inv X pins σ H { s with heap:=h' }:=I.kept (t':=s.toks) kp
   have I2:Inv X pins σ (upd H h'.objs.size (.tup ys)) { s with heap:=h'.push { cls:=.type "tuple",data:=.seq its.toArray } } :=
     I1.laid (t':=s.toks) (λb o e=>Heap.get?_push_of_some _ e) (Nat.le_refl _) (show ObjOk X.prog X.w _ _ _ (.tup ys) from ⟨hz,its,r',IsTup.new _ _⟩)
   exact ⟨.ref h'.objs.size,_,I2,rfl,q _ (I1.hok.fresh (Nat.le_refl _))⟩
 · obtain ⟨its,r',pl,hz⟩:=I.tuple hq
   exact call_tuple_same pl ⟨.ref p,H,I,rfl,q⟩

def tyV (K:PySem.W.Frag) (T:String) (x:V) (H:Hp):Prop:=match x with
 | .str _=>T="str"
 | .int _=>T="int"
 | .ref p=>(T="list"/\∃ xs,SqL K H p xs)\/(T="tuple"/\∃ o,K.lookup p=some o/\o.cls=.type "tuple"/\o.dict=none) \/
     (T="dict"/\((∃ kvs,H p=some (.dK kvs))\/∃ kvs,H p=some (.dT kvs)))\/(T="set"/\∃ S n,H p=some (.set S n))
 | _=>False
theorem tyV_is {pins:List (Addr × Obj)} {σ:St} {H:Hp} {s:Shared} {T:String} {x:V} {v:Value} (I:Inv X pins σ H s) (r:RelV x v) (ty:tyV X.K T x H) :
   s.TypeIs v T/\∀ a,v=.ref a->∃ ob,s.heap.get? a=some ob/\ob.dict=none:=by
 cases x with
 | str z =>
   obtain ⟨t,rfl⟩:=r
   cases (show T="str" from ty)
   exact ⟨typeIs_str s z t,λ_ e=>nomatch e⟩
 | int i =>
   obtain ⟨t,rfl⟩:=r
   cases (show T="int" from ty)
   exact ⟨typeIs_int s i t,λ_ e=>nomatch e⟩
 | ref p =>
   cases r
   rcases ty with ⟨rfl,xs,hq⟩ | ⟨rfl,o,hk,hc,hd⟩ | ⟨rfl,hk⟩ | ⟨rfl,S,n,hk⟩
   · obtain ⟨its,_,pl,_⟩:=I.list hq
     refine ⟨pl.isList.typeIs,λa e=>?_⟩
     cases e
     obtain ⟨o,n,e,c,hd,_⟩:=pl
     exact ⟨o,e,hd⟩
   · refine ⟨⟨o,I.kIn p o hk,hc⟩,λa e=>?_⟩
     cases e
     exact ⟨o,I.kIn _ o hk,hd⟩
   · have z:∃ o,s.heap.get? p=some o/\o.ExactDict:=by
       rcases hk with ⟨kvs,hk⟩ | ⟨kvs,hk⟩
       · obtain ⟨_,_,_,_,o,_,_,e,ex,_⟩:=I.hok p _ hk
         exact ⟨o,e,ex⟩
       · obtain ⟨_,_,_,_,o,_,_,e,ex,_⟩:=I.hok p _ hk
         exact ⟨o,e,ex⟩
     obtain ⟨o,e,ex⟩:=z
     refine ⟨⟨o,e,ex.1⟩,λa e2=>?_⟩
     cases e2
     exact ⟨o,e,ex.2.1⟩
   · obtain ⟨o,_,_,_,e,ex,_⟩:=I.hok p _ hk
     refine ⟨⟨o,e,ex.1⟩,λa e2=>?_⟩
     cases e2
     exact ⟨o,e,ex.2.1⟩
 | _=>exact False.elim ty
def tBM0 (K:PySem.W.Frag) (T:String) (r:V->List V->Hp->VK->Prop) (to:TE):TE:=λσ H Q=>to σ H λx H1=>tyV K T x H1/\r x [] H1 Q
def tBM (K:PySem.W.Frag) (T:String) (r:V->List V->Hp->VK->Prop) (to:TE) (t:TA):TE:=λσ H Q=>to σ H λx H1=>tyV K T x H1/\t σ H1 λxs H2=>r x xs H2 Q
variable {o e:Expr} {es:List Expr} {to:TE} {t:TA} {name:Str} {apos cpos:Pos} {T id:String} {r:V->List V->Hp->VK->Prop}
theorem pe_bm0 (pa:PlainAttrs T) (slot:Slot T name id) (hty:typeOf (.builtin id)=pure (.type "method_descriptor")) (hm:MtR X id r) (ho:PE X o to)
   (hbase:attributeBase o name X.env (eval o X.env)=eval o X.env:=by rfl) (hline:(apos.endLine == cpos.line)=true:=by rfl):PE X (.Call (.Attribute o name apos) [] [] cpos) (tBM0 X.K T r to):=by
 intro pins s σ H Q I h
 refine wpAny_Call_method0_late hbase hline (thn (ho pins s σ H _ I h) λv s1 ⟨x,H1,I1,r1,ty,q1⟩=>?_)
 obtain ⟨h1,h2⟩:=tyV_is I1 r1 ty
 exact ⟨T,id,pa,slot,hty,h1,h2,Calls.callWith_builtin rfl (PySem.evalArgs_none (hm pins s1 σ H1 x [] v [] Q I1 r1 .nil q1))⟩
theorem pe_bm (pa:PlainAttrs T) (slot:Slot T name id) (hty:typeOf (.builtin id)=pure (.type "method_descriptor")) (hm:MtR X id r) (ho:PE X o to) (ha:PA X (e :: es) t)
   (hbase:attributeBase o name X.env (eval o X.env)=eval o X.env:=by rfl)
   (hfew:((backTo cpos (starEach (e :: es) X.env)).all (λx=>!x.1) && (backToKw cpos (keywordEach [] X.env)).all (λx=>x.1.isSome)
     && decide ((e :: es).length+([]:List Keyword).length+(if ([]:List Keyword).isEmpty then 0 else 1) < 30))=true:=by rfl)
   (hline:(apos.endLine == cpos.line)=true:=by rfl) (hs:starEach (e :: es) X.env=(false,eval e X.env) :: starEach es X.env:=by rfl) (hplain:(backTo cpos (starEach es X.env)).any (·.1)=false:=by rfl) :
   PE X (.Call (.Attribute o name apos) (e :: es) [] cpos) (tBM X.K T r to t):=by
 intro pins s σ H Q I h
 refine wpAny_Call_method_late hbase hfew hline rfl (thn (ho pins s σ H _ I h) λv s1 ⟨x,H1,I1,r1,ty,q1⟩=>?_)
 obtain ⟨h1,h2⟩:=tyV_is I1 r1 ty
 refine ⟨T,id,pa,slot,hty,h1,h2,?_⟩
 have hA:=ha cpos pins s1 σ H1 _ I1 q1
 rw [hs] at hA ⊢
 refine Calls.callWith_builtin (by show (false || (backTo cpos (starEach es X.env)).any (·.1))=false;rw [hplain]<;>rfl) (Calls.evalArgs_plain ?_)
 exact thn hA λus s2 ⟨vs,H2,I2,r2,q2⟩=>hm pins s2 σ H2 x vs v us Q I2 r1 r2 q2
end
end L2

namespace L2
open PySem PySem.Spec PyProof.Rows

def MtM (X:Cx) (id:String) (r:V->List V->Hp->VK->Prop):Prop :=
 ∀ (pins:List (Addr × Obj)) (s:Shared) (σ:St) (H:Hp) (x:V) (xs:List V) (v:Value) (us:List Value) (Q:VK),Inv X pins σ H s->RelV x v->Vals xs us->r x xs H Q ->
   wpAny (model X.prog X.w) X.A (call (.builtin id) (v :: us)) (EP X pins σ Q) X.xe s

theorem Vals.one:∀ {x:V} {us:List Value},Vals [x] us->∃ u,us=[u]/\RelV x u
 | _,_,.cons r .nil=>⟨_,rfl,r⟩
theorem Vals.zero:∀ {us:List Value},Vals [] us->us=[]
 | _,.nil=>rfl
theorem Vals.dropLast {xs:List V} {us:List Value} (h:Vals xs us):Vals xs.dropLast us.dropLast:=by
 induction h with
 | nil=>exact .nil
 | cons r t ih =>
   cases t with
   | nil=>exact .nil
   | cons q t'=>exact .cons r ih
theorem Vals.eraseIdx:∀ {xs:List V} {us:List Value} (i:Nat),Vals xs us->Vals (xs.eraseIdx i) (us.eraseIdx i)
 | _,_,_,.nil=>.nil
 | _,_,0,.cons _ t=>t
 | _,_,i+1,.cons r t=>.cons r (Vals.eraseIdx i t)
theorem Vals.reverse {xs:List V} {us:List Value} (h:Vals xs us):Vals xs.reverse us.reverse:=by
 induction h with
 | nil=>exact .nil
 | cons r t ih=>rw [List.reverse_cons,List.reverse_cons];exact Vals.append ih (.cons r .nil)
theorem len_erase {α:Type}:∀ (l:List α) (i:Nat),(l.eraseIdx i).length <= l.length
 | [],_=>Nat.le_refl _
 | _ :: _,0=>Nat.le_succ _
 | _ :: r,i+1=>Nat.succ_le_succ (len_erase r i)
section
variable {X:Cx} {pins:List (Addr × Obj)} {σ:St} {H:Hp} {s:Shared} {l b:Addr} {xs ys zs:List V}

theorem Inv.lset {its its':List Value} {n:Nat} {f:Array Value->Array Value} {t':Nat} (I:Inv X pins σ H s) (hH:H l=some (.lst xs))
   (e:s.heap.get? l=some { cls:=.type "list",data:=.seq its.toArray n }) (hf:f its.toArray=its'.toArray) (hv:Vals ys its') (hz:ys.length <= sizeLine) :
   Inv X pins σ (upd H l (.lst ys)) { s with heap:=s.heap.update l (Obj.mapSeq f),toks:=t' }:=by
 have q:=PySem.IsL.update e f
 rw [hf] at q
 refine I.write (x:=l) (e:=l) (by rw [hH];exact trivial) (.inl rfl) (λb' u hb hu=>(Heap.get?_update_other s.heap (Obj.mapSeq f) (Ne.symm hb)).trans hu) ⟨_,q⟩ ?_
 exact ⟨hz,its',_,hv,q⟩
theorem Inv.lnew {its:List Value} {t':Nat} (I:Inv X pins σ H s) (hv:Vals ys its) (hz:ys.length <= sizeLine) :
   Inv X pins σ (upd H s.heap.objs.size (.lst ys)) { s with heap:=s.heap.push { cls:=.type "list",data:=.seq its.toArray },toks:=t' } :=
 I.laid (λ_ _ q=>Heap.get?_push_of_some _ q) (Nat.le_refl _) ⟨hz,its,0,hv,Heap.get?_push_size _ rfl⟩
theorem Inv.fresh (I:Inv X pins σ H s):H s.heap.objs.size=none:=I.hok.fresh (Nat.le_refl _)
theorem Inv.lstM (I:Inv X pins σ H s) (hH:H l=some (.lst xs)):xs.length <= sizeLine/\∃ (its:List Value) (n:Nat),Vals xs its/\xs.length=its.length/\s.heap.get? l=some { cls:=.type "list",data:=.seq its.toArray n }:=by
 obtain ⟨z,its,n,r,e⟩:=I.hok l _ hH
 exact ⟨z,its,n,r,r.length,e⟩

end

section
variable {X:Cx}

def rAppend:V->List V->Hp->VK->Prop:=λx vs H Q=>∃ l xs y,x=.ref l/\vs=[y]/\H l=some (.lst xs)/\xs.length < sizeLine/\Q .non (upd H l (.lst (xs++[y])))
theorem mt_append:MtM X "list.append" rAppend:=by
 intro pins s σ H x vs v us Q I rx rv h
 obtain ⟨l,xs,y,rfl,rfl,hH,hz,q⟩:=h
 cases rx
 obtain ⟨u,rfl,ru⟩:=rv.one
 obtain ⟨z,its,n,r,hl,e⟩:=I.lstM hH
 refine call_meets F.slot_list_append ⟨_,e,rfl⟩ F.entry_list_append (F.args_list_append_2 _ _) (PySem.list_append l its.toArray n u (by rw [List.size_toArray];omega)) ⟨e,?_⟩
 refine ⟨.non,_,I.lset (its':=its++[u]) hH e (by simp) (r.append (.cons ru .nil)) ?_,rfl,q⟩
 rw [List.length_append,List.length_singleton]
 omega

def rExtend:V->List V->Hp->VK->Prop:=λx vs H Q=>∃ l b xs zs,x=.ref l/\vs=[.ref b]/\H l=some (.lst xs)/\H b=some (.lst zs)/\xs.length+zs.length <= sizeLine/\Q .non (upd H l (.lst (xs++zs)))
def rPop:V->List V->Hp->VK->Prop:=λx vs H Q=>∃ l xs y,x=.ref l/\vs=[]/\H l=some (.lst xs)/\xs[xs.length - 1]?=some y/\Q y (upd H l (.lst xs.dropLast))
def rPopAt:V->List V->Hp->VK->Prop:=λx vs H Q=>∃ l xs i k y,x=.ref l/\vs=[.int i]/\H l=some (.lst xs)/\-(2 ^ 63) <= i/\i < 2 ^ 63/\seqIndex? i xs.length=some k/\xs[k]?=some y/\Q y (upd H l (.lst (xs.eraseIdx k)))
theorem mt_popAt:MtM X "list.pop" rPopAt:=by
 intro pins s σ H x vs v us Q I rx rv h
 obtain ⟨l,xs,i,k,y,rfl,rfl,hH,h1,h2,hk,hy,q⟩:=h
 cases rx
 obtain ⟨u,rfl,ru⟩:=rv.one
 obtain ⟨t,rfl⟩:=ru
 obtain ⟨z,its,n,r,hl,e⟩:=I.lstM hH
 obtain ⟨w,hw,rw'⟩:=r.get hy
 refine call_meets F.slot_list_pop ⟨_,e,rfl⟩ F.entry_list_pop (F.args_list_pop_2 _ _)
   (MeetsSeq.list_pop_at l its.toArray n i t k w (fitsIndex_both h1 h2) (by rw [List.size_toArray,← hl];exact hk) (by rw [← Array.getElem?_toList];exact hw) (by rw [List.size_toArray];omega)) ⟨e,?_⟩
 refine ⟨y,_,I.lset (its':=its.eraseIdx k) hH e ?_ (r.eraseIdx k) ?_,rw',q⟩
 · show its.toArray.eraseIdxIfInBounds k=(its.eraseIdx k).toArray
   rw [List.eraseIdxIfInBounds_toArray]
 · have:=len_erase xs k
   omega

def rReverse:V->List V->Hp->VK->Prop:=λx vs H Q=>∃ l xs,x=.ref l/\vs=[]/\H l=some (.lst xs)/\Q .non (upd H l (.lst xs.reverse))
def rClear:V->List V->Hp->VK->Prop:=λx vs H Q=>∃ l xs,x=.ref l/\vs=[]/\H l=some (.lst xs)/\Q .non (upd H l (.lst []))
theorem mt_clear:MtM X "list.clear" rClear:=by
 intro pins s σ H x vs v us Q I rx rv h
 obtain ⟨l,xs,rfl,rfl,hH,q⟩:=h
 cases rx
 have hus:=rv.zero
 subst hus
 obtain ⟨z,its,n,r,hl,e⟩:=I.lstM hH
 refine call_meets F.slot_list_clear ⟨_,e,rfl⟩ F.entry_list_clear (F.args_list_clear_1 _) (AutoSeq1.list_clear_list_0 l its.toArray n (by rw [List.size_toArray];omega)) ⟨e,?_⟩
 exact ⟨.non,_,I.lset (its':=[]) (ys:=[]) hH e rfl .nil (Nat.zero_le _),rfl,q⟩

def rCat:R2:=λx y H Q=>∃ l b xs zs,x=.ref l/\y=.ref b/\H l=some (.lst xs)/\H b=some (.lst zs)/\xs.length+zs.length <= sizeLine/\∀ p,H p=none->Q (.ref p) (upd H p (.lst (xs++zs)))
theorem op_cat:OpR X (binaryOp .Add) rCat:=by
 intro pins s σ H x y v u Q I rx ry h
 obtain ⟨l,b,xs,zs,rfl,rfl,hH,hB,hz,q⟩:=h
 cases rx
 cases ry
 obtain ⟨z,its,n,r,hl,e⟩:=I.lstM hH
 obtain ⟨z2,its2,n2,r2,hl2,e2⟩:=I.lstM hB
 refine PySem.P.add_list e e2 ?_ (by rw [List.size_toArray,List.size_toArray];omega)
 have ea:its.toArray++its2.toArray=(its++its2).toArray:=by simp
 rw [ea]
 exact ⟨.ref _,_,I.lnew (t':=s.toks) (r.append r2) (by rw [List.length_append];omega),rfl,q _ I.fresh⟩
def rRep:R2:=λx y H Q=>∃ l k xs,x=.ref l/\y=.int k/\H l=some (.lst xs)/\-(2 ^ 63) <= k/\k < 2 ^ 63/\xs.length * k.toNat <= sizeLine /\
 ∀ p,H p=none->Q (.ref p) (upd H p (.lst (List.replicate k.toNat xs).flatten))
end

section
variable {prog:Program} {w:World} {A:Around} {E:Value->Shared->Prop} {s:Shared}
end

section
variable {X:Cx}
end
end L2

namespace L2
open PySem PySem.Spec PyProof.Rows

section
variable {κ:Type} [DecidableEq κ]
def valV (kvs:List (κ × V)) (k:κ):Option V:=(kvs.find? λkv=>decide (kv.1=k)).map (·.2)
def putK (kvs:List (κ × V)) (k:κ) (v:V):List (κ × V) :=
 if (kvs.any λkv=>decide (kv.1=k))=true then kvs.map (λkv=>if kv.1=k then (kv.1,v) else kv) else kvs++[(k,v)]
def dropK (kvs:List (κ × V)) (k:κ):List (κ × V):=kvs.filter λkv=>decide (kv.1≠k)

theorem valV_pos {p:κ × V} {r:List (κ × V)} {k:κ} (e:p.1=k):valV (p :: r) k=some p.2:=by simp [valV,List.find?_cons,e]
theorem valV_neg {p:κ × V} {r:List (κ × V)} {k:κ} (e:¬ p.1=k):valV (p :: r) k=valV r k:=by simp [valV,List.find?_cons,e]
theorem valV_any (k:κ):∀ kvs:List (κ × V),(kvs.any λkv=>decide (kv.1=k))=(valV kvs k).isSome
 | []=>rfl
 | p :: r=>by
   rw [List.any_cons]
   by_cases e:p.1=k
   · simp only [valV_pos e,decide_eq_true e,Bool.true_or,Option.isSome_some]
   · rw [valV_neg e,decide_eq_false e,Bool.false_or];exact valV_any k r
theorem length_putK (kvs:List (κ × V)) (k:κ) (v:V):(putK kvs k v).length <= kvs.length+1:=by
 unfold putK
 split
 · rw [List.length_map];omega
 · rw [List.length_append,List.length_cons,List.length_nil];omega
theorem RelO.isSome_eq {o:Option V} {u:Option Value} (r:RelO o u):o.isSome=u.isSome:=by
 cases o with
 | none=>cases u with
   | none=>rfl
   | some _=>exact (show False from r).elim
 | some _=>cases u with
   | none=>exact (show False from r).elim
   | some _=>rfl
theorem RelO.getD {o:Option V} {u:Option Value} {d:V} {d':Value} (r:RelO o u) (rd:RelV d d'):RelV (o.getD d) (u.getD d'):=by
 cases o with
 | none=>cases u with
   | none=>exact rd
   | some _=>exact (show False from r).elim
 | some _=>cases u with
   | none=>exact (show False from r).elim
   | some _=>exact r

theorem KV.val {kvs:List (κ × V)} {vs:List (κ × Value)} (r:KV kvs vs) (k:κ):RelO (valV kvs k) (valueAt vs k):=by
 unfold KV at r
 induction r with
 | nil=>exact True.intro
 | @cons p q ps qs h t ih =>
   obtain ⟨h1,h2⟩:=h
   by_cases e:p.1=k
   · have e':q.1=k:=h1.symm.trans e
     have b:valueAt (q :: qs) k=some q.2:=by simp [valueAt,List.find?_cons,e']
     rw [valV_pos e,b];exact h2
   · have e':¬ q.1=k:=λz=>e (h1.trans z)
     have b:valueAt (q :: qs) k=valueAt qs k:=by simp [valueAt,List.find?_cons,e']
     rw [valV_neg e,b];exact ih
theorem KV.any {kvs:List (κ × V)} {vs:List (κ × Value)} (r:KV kvs vs) (k:κ):(kvs.any λkv=>decide (kv.1=k))=vs.any λkv=>decide (kv.1=k):=by
 unfold KV at r
 induction r with
 | nil=>rfl
 | cons h t ih=>rw [List.any_cons,List.any_cons,ih,h.1]
theorem KV.repl {kvs:List (κ × V)} {vs:List (κ × Value)} (r:KV kvs vs) (k:κ) {y:V} {u:Value} (ry:RelV y u) :
   KV (kvs.map λkv=>if kv.1=k then (kv.1,y) else kv) (vs.map λkv=>if kv.1=k then (kv.1,u) else kv):=by
 unfold KV at r ⊢
 induction r with
 | nil=>exact .nil
 | @cons p q ps qs h t ih =>
   rw [List.map_cons,List.map_cons]
   refine .cons ?_ ih
   obtain ⟨h1,h2⟩:=h
   by_cases e:p.1=k
   · rw [if_pos e,if_pos (h1.symm.trans e)];exact ⟨h1,ry⟩
   · rw [if_neg e,if_neg (λz=>e (h1.trans z))];exact ⟨h1,h2⟩
theorem KV.put {kvs:List (κ × V)} {vs:List (κ × Value)} (r:KV kvs vs) (k:κ) {y:V} {u:Value} (ry:RelV y u):KV (putK kvs k y) (stored vs k u):=by
 unfold putK stored
 rw [r.any k]
 by_cases e:(vs.any λkv=>decide (kv.1=k))=true
 · rw [if_pos e,if_pos e];exact r.repl k ry
 · rw [if_neg e,if_neg e];exact Paired.snoc r ⟨rfl,ry⟩
theorem KV.drop {kvs:List (κ × V)} {vs:List (κ × Value)} (r:KV kvs vs) (k:κ):KV (dropK kvs k) (without vs k):=by
 unfold KV at r ⊢
 unfold dropK without
 induction r with
 | nil=>exact .nil
 | @cons p q ps qs h t ih =>
   obtain ⟨h1,h2⟩:=h
   rw [List.filter_cons,List.filter_cons]
   by_cases e:p.1=k
   · have a:¬ decide (p.1≠k)=true:=by simp [e]
     have b:¬ decide (q.1≠k)=true:=by simp [h1.symm.trans e]
     rw [if_neg a,if_neg b];exact ih
   · have e':¬ q.1=k:=λz=>e (h1.trans z)
     have a:decide (p.1≠k)=true:=by simp [e]
     have b:decide (q.1≠k)=true:=by simp [e']
     rw [if_pos a,if_pos b];exact .cons ⟨h1,h2⟩ ih
theorem KV.keys {kvs:List (κ × V)} {vs:List (κ × Value)} (r:KV kvs vs):kvs.map (·.1)=vs.map (·.1):=by
 unfold KV at r
 induction r with
 | nil=>rfl
 | cons h t ih=>rw [List.map_cons,List.map_cons,ih,h.1]
theorem KV.length {kvs:List (κ × V)} {vs:List (κ × Value)} (r:KV kvs vs):kvs.length=vs.length:=Paired.length r
theorem dropK_le (kvs:List (κ × V)) (k:κ):(dropK kvs k).length <= kvs.length:=List.length_filter_le _ _
end


theorem kV_is {P:Program} {w:World} {k:Key} {u:Value} (r:RelV (kV k) u):(mixKind P w).is k u=true:=by
 cases k with
 | inl i=>obtain ⟨t,e⟩:=(show ∃ t,u=Value.int i t from r);subst e;exact mixKind_int P w i t
 | inr x=>obtain ⟨t,e⟩:=(show ∃ t,u=Value.str x t from r);subst e;exact mixKind_str P w x t
theorem items_are {P:Program} {w:World}:∀ {ks:List Key} {us:List Value},Vals (ks.map kV) us->ItemsAre (mixKind P w) ks us
 | [],_,r=>by rw [List.map_nil] at r;cases r;exact .nil
 | k :: ks,_,r=>by
   rw [List.map_cons] at r
   cases r with
   | cons h t=>exact .cons (kV_is h) (items_are t)

abbrev KT (H:Hp):List (List Key × V)->List (List Key × Addr × Value)->Prop:=Paired λp q=>p.1=q.1/\H q.2.1=some (.tup (p.1.map kV))/\RelV p.2 q.2.2
theorem KT.val {H:Hp} {kvs:List (List Key × V)} {xs:List (List Key × Addr × Value)} (r:KT H kvs xs) (k:List Key):RelO (valV kvs k) ((atKey xs k).map (·.2)):=by
 induction r with
 | nil=>exact True.intro
 | @cons p q ps qs h t ih =>
   obtain ⟨h1,_,h2⟩:=h
   by_cases e:p.1=k
   · have e':q.1=k:=h1.symm.trans e
     have b:atKey (q :: qs) k=some q.2:=by simp [atKey,List.find?_cons,e']
     rw [valV_pos e,b];exact h2
   · have e':¬ q.1=k:=λz=>e (h1.trans z)
     have b:atKey (q :: qs) k=atKey qs k:=by simp [atKey,List.find?_cons,e']
     rw [valV_neg e,b];exact ih
theorem KT.repl {H:Hp} {kvs:List (List Key × V)} {xs:List (List Key × Addr × Value)} (r:KT H kvs xs) (k:List Key) {y:V} {u:Value} (ry:RelV y u) :
   KT H (kvs.map λkv=>if kv.1=k then (kv.1,y) else kv) (xs.map (putAt k u)):=by
 induction r with
 | nil=>exact .nil
 | @cons p q ps qs h t ih =>
   rw [List.map_cons,List.map_cons]
   refine .cons ?_ ih
   obtain ⟨h1,h2,h3⟩:=h
   unfold putAt
   by_cases e:p.1=k
   · rw [if_pos e,if_pos (h1.symm.trans e)];exact ⟨h1,h2,ry⟩
   · rw [if_neg e,if_neg (λz=>e (h1.trans z))];exact ⟨h1,h2,h3⟩
theorem KT.put {H:Hp} {kvs:List (List Key × V)} {xs:List (List Key × Addr × Value)} (r:KT H kvs xs) (k:List Key) {b:Addr} {y:V} {u:Value} (hb:H b=some (.tup (k.map kV))) (ry:RelV y u) :
   KT H (putK kvs k y) (storedH xs k b u):=by
 have e:(kvs.any λkv=>decide (kv.1=k))=(atKey xs k).isSome:=by
   rw [valV_any,(r.val k).isSome_eq,Option.isSome_map]
 unfold putK storedH
 rw [e]
 by_cases q:(atKey xs k).isSome=true
 · rw [if_pos q,if_pos q];exact r.repl k ry
 · rw [if_neg q,if_neg q];exact Paired.snoc r ⟨rfl,hb,ry⟩
theorem KT.keeps {H H':Hp} {kvs:List (List Key × V)} {xs:List (List Key × Addr × Value)} (r:KT H kvs xs) (ht:∀ b ys,H b=some (.tup ys)->H' b=some (.tup ys)):KT H' kvs xs :=
 Paired.mapP r λ_ _ z=>⟨z.1,ht _ _ z.2.1,z.2.2⟩

section
variable {P:Program} {w:World} {H:Hp} {h:Heap} {a:Addr}
theorem rd_of {u:HO} (ok:HOk P w H h) (e:Rd H a u):ObjOk P w H h a u:=e.ok ok
theorem dk_rd {kvs:List (Key × V)} (ok:HOk P w H h) (e:Rd H a (.dK kvs)):kvs.length <= sizeLine/\(a == sysModules)=false/\∃ vs,KV kvs vs/\h.DictOf (mixKind P w) a vs :=
 show ObjOk P w H h a (.dK kvs) from rd_of ok e
theorem dk_of {kvs:List (Key × V)} (ok:HOk P w H h) (e:H a=some (.dK kvs)):kvs.length <= sizeLine/\(a == sysModules)=false/\∃ vs,KV kvs vs/\h.DictOf (mixKind P w) a vs:=dk_rd ok (.inl e)
theorem key_of {ks:List Key} (ok:HOk P w H h) (e:H a=some (.tup (ks.map kV))):(tupleKind (mixKind P w)).is h ks a:=by
 obtain ⟨_,its,r,o,h1,h2,n,h3⟩:=(show ObjOk P w H h a (.tup (ks.map kV)) from ok a _ e)
 exact ⟨o,its.toArray,n,h1,h2,h3,by simpa using items_are r⟩
theorem dt_rd {kvs:List (List Key × V)} (ok:HOk P w H h) (e:Rd H a (.dT kvs)):kvs.length <= sizeLine/\(a == sysModules)=false /\
   ∃ xs,KT H kvs xs/\h.DictOfH (tupleKind (mixKind P w)) a xs:=by
 obtain ⟨z,y,xs,r,o,es,ep,h1,h2,h3,h4,h5⟩:=(show ObjOk P w H h a (.dT kvs) from rd_of ok e)
 refine ⟨z,y,xs,r,o,es,ep,h1,h2,h3,h4,λx hx=>?_,h5⟩
 have all:∀ {l:List (List Key × V)} {m:List (List Key × Addr × Value)},KT H l m->∀ x∈m,(tupleKind (mixKind P w)).is h x.1 x.2.1:=by
   intro l m q
   induction q with
   | nil=>intro x hx;exact nomatch hx
   | @cons p q ps qs hq t ih =>
     intro x hx
     rcases List.mem_cons.mp hx with e | hx
     · subst e
       exact key_of ok (by rw [← hq.1];exact hq.2.1)
     · exact ih x hx
 exact all r x hx
theorem dt_of {kvs:List (List Key × V)} (ok:HOk P w H h) (e:H a=some (.dT kvs)):kvs.length <= sizeLine/\(a == sysModules)=false /\
   ∃ xs,KT H kvs xs/\h.DictOfH (tupleKind (mixKind P w)) a xs:=dt_rd ok (.inl e)
end

def DGet (H:Hp) (a:Addr) (y:V) (r:Option V):Prop :=
 (∃ kvs k,Rd H a (.dK kvs)/\y=kV k/\r=valV kvs k)\/∃ kvs k b,Rd H a (.dT kvs)/\y=.ref b/\H b=some (.tup (k.map kV))/\r=valV kvs k
def DPut (H:Hp) (a:Addr) (y v:V) (H':Hp):Prop :=
 (∃ kvs k,H a=some (.dK kvs)/\y=kV k/\kvs.length < sizeLine/\H'=upd H a (.dK (putK kvs k v))) \/
 ∃ kvs k b,H a=some (.dT kvs)/\y=.ref b/\H b=some (.tup (k.map kV))/\kvs.length < sizeLine/\H'=upd H a (.dT (putK kvs k v))
theorem DGet.k {H:Hp} {a:Addr} {kvs:List (Key × V)} {k:Key} (e:H a=some (.dK kvs)):DGet H a (kV k) (valV kvs k):=.inl ⟨kvs,k,.inl e,rfl,rfl⟩
theorem DGet.t {H:Hp} {a b:Addr} {kvs:List (List Key × V)} {k:List Key} (e:H a=some (.dT kvs)) (eb:H b=some (.tup (k.map kV))):DGet H a (.ref b) (valV kvs k):=.inr ⟨kvs,k,b,.inl e,rfl,eb,rfl⟩
theorem DPut.k {H:Hp} {a:Addr} {kvs:List (Key × V)} {k:Key} {v:V} (e:H a=some (.dK kvs)) (hl:kvs.length < sizeLine):DPut H a (kV k) v (upd H a (.dK (putK kvs k v))):=.inl ⟨kvs,k,e,rfl,hl,rfl⟩
theorem DPut.t {H:Hp} {a b:Addr} {kvs:List (List Key × V)} {k:List Key} {v:V} (e:H a=some (.dT kvs)) (eb:H b=some (.tup (k.map kV))) (hl:kvs.length < sizeLine) :
   DPut H a (.ref b) v (upd H a (.dT (putK kvs k v))):=.inr ⟨kvs,k,b,e,rfl,eb,hl,rfl⟩


section
variable {X:Cx} {pins:List (Addr × Obj)} {σ:St} {H:Hp} {s:Shared} {a:Addr} {y v:V} {u r:Value} {o:Option V} {A:Around} {E:Value->Shared->Prop}

theorem Inv.big (I:Inv X pins σ H s):sysModules < s.heap.objs.size:=by
 have h:mainGlobals < s.heap.objs.size:=(I.mod.glob.keeps I.bk).lt
 exact Nat.lt_trans (by decide) h

theorem d_notIn {Q:Value->Shared->Prop} (hu:A.units+1 < cLine) (I:Inv X pins σ H s) (g:DGet H a y o) (ry:RelV y u) (h:∀ s',Inv X pins σ H s'->Q (.bool (!o.isSome)) s') :
   wpAny (model X.prog X.w) A (compareOp .NotIn u (.ref a)) Q E s:=by
 rcases g with ⟨kvs,k,e,ey,l⟩ | ⟨kvs,k,b,e,ey,eb,l⟩
 · subst ey
   obtain ⟨z,hd,vs,rel,dd⟩:=dk_rd I.hok e
   refine wpAny_notIn_of (kV_is ry) hd dd.mapOf ?_
   rw [← (rel.val k).isSome_eq,← l]
   exact h _ (I.tok _)
 · subst ey
   cases (show u=Value.ref b from ry)
   obtain ⟨z,hd,xs,rel,dd⟩:=dt_rd I.hok e
   refine wpAny_notIn_heap (tupleKind_room_in1 hu) (key_of I.hok eb) hd dd ?_
   have q:=(rel.val k).isSome_eq
   rw [Option.isSome_map] at q
   rw [← q,← l]
   exact h _ (I.tok _)
theorem d_write {h':Heap} {t':Nat} {ob:HO} (I:Inv X pins σ H s) (mu:Mut (H a)) (hs:Heap.SameBut a s.heap h') (he:∃ q,h'.get? a=some q) (new:ObjOk X.prog X.w (upd H a ob) h' a ob) :
   Inv X pins σ (upd H a ob) { s with heap:=h',toks:=t' } :=
 I.write (x:=a) (e:=a) mu (.inl rfl) (λb q hb z=>(hs.2 b hb).trans z) he new
theorem dk_new {P:Program} {w:World} {H':Hp} {h':Heap} {kvs:List (Key × V)} {vs:List (Key × Value)} (z:kvs.length <= sizeLine) (hd:(a == sysModules)=false) (rel:KV kvs vs) (dd:h'.DictOf (mixKind P w) a vs) :
   ObjOk P w H' h' a (.dK kvs):=⟨z,hd,vs,rel,dd⟩
theorem d_setItem {H':Hp} {Q:Unit->Shared->Prop} (hu:A.units+1 < cLine) (I:Inv X pins σ H s) (g:DPut H a y v H') (ry:RelV y u) (rv:RelV v r) (h:∀ s',Inv X pins σ H' s'->Q () s') :
   wpAny (model X.prog X.w) A (setItem (.ref a) u r) Q E s:=by
 rcases g with ⟨kvs,k,e,ey,l,eH⟩ | ⟨kvs,k,b,e,ey,eb,l,eH⟩
 · subst ey eH
   obtain ⟨z,hd,vs,rel,dd⟩:=dk_of I.hok e
   have hz:vs.length <= sizeLine:=by rw [← rel.length];exact z
   have hl:(putK kvs k v).length <= sizeLine:=by have:=length_putK kvs k v;omega
   refine wpAny_setItem_pairs (hsz:=hz) (kV_is ry) dd λh' dd' hs=>h _ ?_
   have he:∃ q,h'.get? a=some q:=let ⟨q,_,_,hq,_⟩:=dd';⟨q,hq⟩
   exact d_write I (by rw [e];exact True.intro) hs he (dk_new hl hd (rel.put k rv) dd')
 · subst ey eH
   cases (show u=Value.ref b from ry)
   obtain ⟨z,hd,xs,rel,dd⟩:=dt_of I.hok e
   have hz:xs.length <= sizeLine:=by rw [← Paired.length rel];exact z
   have hl:(putK kvs k v).length <= sizeLine:=by have:=length_putK kvs k v;omega
   refine wpAny_setItem_heap (hsz:=hz) (tupleKind_room_in1 hu) (key_of I.hok eb) dd λh' dd' hs=>h _ ?_
   obtain ⟨q,es,ep,hq,h2,h3,h4,_,h5⟩:=dd'
   refine d_write I (by rw [e];exact True.intro) hs ⟨q,hq⟩ ⟨hl,hd,_,(rel.put k eb rv).keeps λc ys ec=>?_,q,es,ep,hq,h2,h3,h4,h5⟩
   rw [upd_ne (ne_of ec e (λz=>nomatch z))]
   exact ec
end

section
variable {X:Cx} {pins:List (Addr × Obj)} {σ:St} {H:Hp} {s:Shared} {a:Addr} {kvs:List (Key × V)} {k:Key} {u:Value} {A:Around} {E:Value->Shared->Prop}
theorem d_pop {v:V} {more:List Value} {Q:Value->Shared->Prop} (I:Inv X pins σ H s) (e:H a=some (.dK kvs)) (ry:RelV (kV k) u) (l:valV kvs k=some v) (hm:more=[]\/∃ x,more=[x])
   (h:∀ w' s',Inv X pins σ (upd H a (.dK (dropK kvs k))) s'->RelV v w'->Q w' s'):wpAny (model X.prog X.w) A (call (.builtin "dict.pop") (.ref a :: u :: more)) Q E s:=by
 obtain ⟨z,hd,vs,rel,dd⟩:=dk_of I.hok e
 obtain ⟨w',hw,rw'⟩:=RelO.some_of (v:=v) (o:=valueAt vs k) (by rw [← l];exact rel.val k)
 have hp:(keyPart u).isSome=true:=by
   cases k with
   | inl i=>obtain ⟨t,q⟩:=(show ∃ t,u=Value.int i t from ry);subst q;rfl
   | inr x=>obtain ⟨t,q⟩:=(show ∃ t,u=Value.str x t from ry);subst q;rfl
 have ha:argsOk "dict.pop" ⟨.ref a :: u :: more,[]⟩:=by
   rcases hm with q | ⟨x,q⟩
   · subst q;exact PySem.F.args_dict_pop_2 _ _
   · subst q;exact PySem.F.args_dict_pop_3 _ _ _
 refine call_meetsIn PySem.F.slot_dict_pop dd.typeIs PySem.F.entry_dict_pop ha (meets_dict_pop_there (mixKind X.prog X.w) a (kV_is ry) more hm hp)
   ⟨vs,w',dd,by rw [← rel.length];exact z,hw,λh' dd' hs=>h w' _ ?_ rw'⟩
 have he:∃ q,h'.get? a=some q:=let ⟨q,_,_,hq,_⟩:=dd';⟨q,hq⟩
 exact d_write I (by rw [e];exact True.intro) hs he (dk_new (Nat.le_trans (dropK_le kvs k) z) hd (rel.drop k) dd')
theorem d_popD {r:Value} {Q:Value->Shared->Prop} (I:Inv X pins σ H s) (e:H a=some (.dK kvs)) (ry:RelV (kV k) u) (l:valV kvs k=none) (h:∀ s',Inv X pins σ H s'->Q r s') :
   wpAny (model X.prog X.w) A (call (.builtin "dict.pop") [.ref a,u,r]) Q E s:=by
 obtain ⟨z,hd,vs,rel,dd⟩:=dk_of I.hok e
 have hn:valueAt vs k=none:=RelO.none_of (by rw [← l];exact rel.val k)
 have hp:(keyPart u).isSome=true:=by
   cases k with
   | inl i=>obtain ⟨t,q⟩:=(show ∃ t,u=Value.int i t from ry);subst q;rfl
   | inr x=>obtain ⟨t,q⟩:=(show ∃ t,u=Value.str x t from ry);subst q;rfl
 exact call_meetsIn PySem.F.slot_dict_pop dd.typeIs PySem.F.entry_dict_pop (PySem.F.args_dict_pop_3 _ _ _) (meets_dict_pop_default (mixKind X.prog X.w) a (kV_is ry) hd hp r) ⟨vs,dd,hn,h _ (I.tok _)⟩
end


def NoSl (i:Expr):Prop:=∀ ov iv,subscripted i false ov iv=operate [ov,iv] (getItem ov iv)
def tDGet (td ty:TE):TE:=λσ H Q=>td σ H λx H1=>ty σ H1 λy H2=>∃ a v,x=.ref a/\DGet H2 a y (some v)/\Q v H2
def tDIn (ty td:TE):TE:=λσ H Q=>ty σ H λy H1=>td σ H1 λx H2=>∃ a o,x=.ref a/\DGet H2 a y o/\Q (.bl o.isSome) H2
def tDNotIn (ty td:TE):TE:=λσ H Q=>ty σ H λy H1=>td σ H1 λx H2=>∃ a o,x=.ref a/\DGet H2 a y o/\Q (.bl (!o.isSome)) H2
def sDPut (td ty tv:TE):TS:=λD σ H=>tv σ H λv H1=>td σ H1 λx H2=>ty σ H2 λy H3=>∃ a H4,x=.ref a/\DPut H3 a y v H4/\D.nx σ H4
def sDAug (td ty tv:TE) (rd:V->V->Hp->VK->Prop):TS:=λD σ H=>td σ H λx H1=>ty σ H1 λy H2=>∃ a v,x=.ref a/\DGet H2 a y (some v) /\
 tv σ H2 λy2 H3=>rd v y2 H3 λz H4=>∃ H5,DPut H4 a y z H5/\D.nx σ H5
def sDDel (td ty:TE):TS:=λD σ H=>td σ H λx H1=>ty σ H1 λy H2=>∃ a kvs k,x=.ref a/\H2 a=some (.dK kvs)/\y=kV k/\(valV kvs k).isSome=true/\D.nx σ (upd H2 a (.dK (dropK kvs k)))

section
variable {X:Cx} {o i e value:Expr} {pos pos' tpos:Pos} {td ty tv:TE}
theorem pc_dnotin (hu:X.A.units+1 < cLine) (hi:PE X i ty) (ho:PE X o td):PC X .NotIn i o (tDNotIn ty td):=by
 intro pins s σ H Q I h
 refine thn (hi pins s σ H _ I h) λiv s1 ⟨y,H1,I1,ry,q1⟩=>thn (ho pins s1 σ H1 _ I1 q1) λu s2 ⟨x,H2,I2,rx,a,ov,ex,g,q2⟩=>?_
 subst ex
 obtain rfl:u=Value.ref a:=rx
 exact d_notIn hu I2 g ry λs3 I3=>⟨.bl (!ov.isSome),H2,I3,rfl,q2⟩
theorem ps_dput (hu:X.A.units+1 < cLine) (ho:PE X o td) (hi:PE X i ty) (hv:PE X value tv) (hs:swapsWith value (some (.Subscript o i pos')) pos.line X.env=pure false) :
   PS X (.Assign [.Subscript o i pos'] value pos) (sDPut td ty tv):=by
 intro pins s σ H D I h
 refine wpAny_Assign_Subscript (thn (hv pins s σ H _ I h) λr s1 ⟨v,H1,I1,rv,q1⟩=>thn (ho pins s1 σ H1 _ I1 q1) λu s2 ⟨x,H2,I2,rx,q2⟩=>thn (hi pins s2 σ H2 _ I2 q2) λiv s3 ⟨y,H3,I3,ry,a,H4,ex,g,q3⟩=>?_) hs
 subst ex
 obtain rfl:u=Value.ref a:=rx
 exact d_setItem hu I3 g ry rv λs4 I4=>⟨σ,H4,I4,q3⟩
end


theorem dk_empty {P:Program} {w:World} {H:Hp} (h:Heap) (hb:sysModules < h.objs.size):ObjOk P w H (h.push { cls:=.type "dict",data:=.dict #[] }) h.objs.size (.dK []) :=
 ⟨Nat.zero_le _,beq_eq_false_iff_ne.mpr (Ne.symm (Nat.ne_of_lt hb)),[],.nil,Heap.DictOf.new h⟩
def tDNewK:TE:=λ_ H Q=>∀ p,H p=none->Q (.ref p) (upd H p (.dK []))
def tDNewT:TE:=λ_ H Q=>∀ p,H p=none->Q (.ref p) (upd H p (.dT []))
section
variable {X:Cx} {pos:Pos}
theorem pe_dnewK:PE X (.Dict [] [] pos) tDNewK:=λpins s σ H Q I h =>
 wpAny_Dict_empty ⟨.ref s.heap.objs.size,_,I.laid (a:=s.heap.objs.size) (o:=.dK []) (t':=s.toks) (λ_ _ q=>Heap.get?_push_of_some _ q) (Nat.le_refl _) (dk_empty s.heap I.big),rfl,h _ (I.hok.fresh (Nat.le_refl _))⟩
end

def tPairs:List (TE × TE)->St->Hp->(List (V × V)->Hp->Prop)->Prop
 | [],_,H,Q=>Q [] H
 | (tk,tv) :: r,σ,H,Q=>tk σ H λx H1=>tv σ H1 λy H2=>tPairs r σ H2 λps H3=>Q ((x,y) :: ps) H3
abbrev VV:List (V × V)->List (Value × Value)->Prop:=Paired λp q=>RelV p.1 q.1/\RelV p.2 q.2
def PPs (X:Cx) (pos:Pos) (keys:List (Option Expr)) (values:List Expr) (trs:List (TE × TE)):Prop :=
 ∀ (pins:List (Addr × Obj)) (s:Shared) (σ:St) (H:Hp) (Q:List (V × V)->Hp->Prop),Inv X pins σ H s->tPairs trs σ H Q ->
   wpAny (model X.prog X.w) X.A (evalPairs (pairTrees keys values X.env pos)) (λvs s'=>∃ ps H',Inv X pins σ H' s'/\VV ps vs/\Q ps H') X.xe s
def mergeK (kvs more:List (Key × V)):List (Key × V):=more.foldl (λacc kv=>putK acc kv.1 kv.2) kvs
def tDisp (trs:List (TE × TE)):TE:=λσ H Q=>∀ p,H p=none->tPairs trs σ (upd H p (.dK [])) λps H2=>H2 p=some (.dK [])/\∃ kvs:List (Key × V),ps=kvs.map (λkv=>(kV kv.1,kv.2))/\kvs.length <= 15/\Q (.ref p) (upd H2 p (.dK (mergeK [] kvs)))
structure M1 (X:Cx) (o:Expr) (m:Str) (apos:Pos) (e:Expr) (cpos:Pos):Prop where
 base:attributeBase o m X.env (eval o X.env)=eval o X.env
 few:((backTo cpos (starEach [e] X.env)).all (λx=>!x.1) && (backToKw cpos (keywordEach [] X.env)).all (λx=>x.1.isSome)
   && decide (([e]:List Expr).length+([]:List Keyword).length+(if ([]:List Keyword).isEmpty then 0 else 1) < 30))=true
 line:(apos.endLine == cpos.line)=true
 trees:backTo cpos (starEach [e] X.env)=[(false,eval e X.env)]
structure M2 (X:Cx) (o:Expr) (m:Str) (apos:Pos) (e f:Expr) (cpos:Pos):Prop where
 base:attributeBase o m X.env (eval o X.env)=eval o X.env
 few:((backTo cpos (starEach [e,f] X.env)).all (λx=>!x.1) && (backToKw cpos (keywordEach [] X.env)).all (λx=>x.1.isSome)
   && decide (([e,f]:List Expr).length+([]:List Keyword).length+(if ([]:List Keyword).isEmpty then 0 else 1) < 30))=true
 line:(apos.endLine == cpos.line)=true
 trees:backTo cpos (starEach [e,f] X.env)=[(false,eval e X.env),(false,eval f X.env)]

def IsD (H:Hp) (a:Addr):Prop:=(∃ kvs,Rd H a (.dK kvs))\/∃ kvs,Rd H a (.dT kvs)
theorem isD_at {X:Cx} {pins:List (Addr × Obj)} {σ:St} {H:Hp} {s:Shared} {a:Addr} (I:Inv X pins σ H s) (d:IsD H a) :
   s.TypeIs (.ref a) "dict"/\(∀ b,Value.ref a=.ref b->∃ ob,s.heap.get? b=some ob/\ob.dict=none)/\(a == sysModules)=false:=by
 rcases d with ⟨kvs,e⟩ | ⟨kvs,e⟩
 · obtain ⟨_,hd,vs,_,dd⟩:=dk_rd I.hok e
   refine ⟨dd.typeIs,λb q=>?_,hd⟩
   cases q
   obtain ⟨ob,_,_,h1,h2,_⟩:=dd
   exact ⟨ob,h1,h2.2.1⟩
 · obtain ⟨_,hd,xs,_,dd⟩:=dt_rd I.hok e
   refine ⟨dd.typeIs,λb q=>?_,hd⟩
   cases q
   obtain ⟨ob,_,_,h1,h2,_⟩:=dd
   exact ⟨ob,h1,h2.2.1⟩

section
variable {X:Cx} {pins:List (Addr × Obj)} {σ:St} {H:Hp} {s:Shared} {a:Addr} {y d:V} {u r:Value} {o:Option V} {A:Around} {E:Value->Shared->Prop}
end

def tDGet1 (td ty:TE):TE:=λσ H Q=>td σ H λx H1=>∃ a,x=.ref a/\IsD H1 a/\ty σ H1 λy H2=>∃ o,DGet H2 a y o/\Q (o.getD .non) H2
def tDGet2 (td ty tx:TE):TE:=λσ H Q=>td σ H λx H1=>∃ a,x=.ref a/\IsD H1 a/\ty σ H1 λy H2=>tx σ H2 λz H3=>∃ o,DGet H3 a y o/\Q (o.getD z) H3
def tDPop1 (td ty:TE):TE:=λσ H Q=>td σ H λx H1=>∃ a,x=.ref a/\IsD H1 a/\ty σ H1 λy H2=>∃ kvs k v,H2 a=some (.dK kvs)/\y=kV k/\valV kvs k=some v/\Q v (upd H2 a (.dK (dropK kvs k)))
def tDPop2 (td ty tx:TE):TE:=λσ H Q=>td σ H λx H1=>∃ a,x=.ref a/\IsD H1 a/\ty σ H1 λy H2=>tx σ H2 λz H3=>∃ kvs k,H3 a=some (.dK kvs)/\y=kV k /\
 (∀ v,valV kvs k=some v->Q v (upd H3 a (.dK (dropK kvs k))))/\(valV kvs k=none->Q z H3)
section
variable {X:Cx} {o e f:Expr} {apos cpos:Pos} {td ty tx:TE}
theorem pe_dpop1 (ho:PE X o td) (he:PE X e ty) (m:M1 X o "pop" apos e cpos):PE X (.Call (.Attribute o "pop" apos) [e] [] cpos) (tDPop1 td ty):=by
 intro pins s σ H Q I h
 refine wpAny_Call_method m.base m.few m.line PySem.F.plainAttrs_dict PySem.F.slot_dict_pop PySem.F.type_dict_pop (thn (ho pins s σ H _ I h) λu s1 ⟨x,H1,I1,rx,a,ex,d,q1⟩=>?_)
 subst ex
 obtain rfl:u=Value.ref a:=rx
 obtain ⟨t1,t2,_⟩:=isD_at I1 d
 refine ⟨t1,t2,?_⟩
 rw [m.trees]
 refine Calls.callWith_builtin rfl (Calls.evalArgs_plain (Calls.spliced_cons (thn (he pins s1 σ H1 _ I1 q1) λiv s2 ⟨y,H2,I2,ry,kvs,k,v,ea,ey,l,q2⟩=>Calls.spliced_nil ?_)))
 subst ey
 exact d_pop I2 ea ry l (.inl rfl) λw' s3 I3 rw'=>⟨v,_,I3,rw',q2⟩
end

section
variable {X:Cx} {pins:List (Addr × Obj)} {σ:St} {H:Hp} {s:Shared} {a:Addr} {kvs:List (Key × V)} {A:Around} {E:Value->Shared->Prop}
end


section
variable {X:Cx} {pins:List (Addr × Obj)} {σ:St} {H:Hp} {s:Shared} {a:Addr} {y:V} {u:Value} {A:Around} {E:Value->Shared->Prop}
end
end L2

namespace Att
open PySem PySem.W PySem.Calls PyProof.Rows

theorem ints_of_wellAll {P:Params} {h:Heap}:∀ (ns:List Int) (vs:List Value),WellAll P h vs (ns.map WData.int)->IntsAre vs ns:=by
 intro ns
 induction ns with
 | nil =>
   intro vs w
   rw [List.map_nil] at w
   cases w
   exact .nil
 | cons n ns ih =>
   intro vs w
   rw [List.map_cons] at w
   cases w with
   | cons a b =>
     cases a
     exact .cons _ _ (ih _ b)

theorem script_of {l:OpenLaw} {n:Nat} (hn:l.most=some n) {P:Params} {h:Heap} {args:List WData} {vals:List Value}
   (hpre:l.row.toRowW.claim.pre args=true) (hwl:WellAll P h vals args) :
   ∃ a vs ns,vals=[Value.ref a]/\args=[WData.list (ns.map WData.int)]/\h.get? a=some { cls:=.type "list",data:=.seq vs.toArray }/\IntsAre vs ns/\ns.length <= n:=by
 have hsh:WShape.hasAll [] args [.list .int]=true:=(pre_splitW hpre).1
 have hc:l.pre.holds [] { args:=args }=true:=(pre_splitW hpre).2
 obtain ⟨d,r,rfl,h1,h2⟩:=hasAllW_cons hsh
 obtain rfl:=hasAllW_nil h2
 obtain ⟨xs,rfl,h3⟩:=hasW_list h1
 obtain ⟨ns,rfl⟩:=items_int h3
 have hlen:ns.length <= n:=by
   unfold OpenLaw.pre at hc
   have h4:(WTm.not (.lt (.lit (.int (n:Int))) (.len (.arg 0)))).holds [] { args:=[.list (ns.map .int)] }=true:=by
     have h4:=(holds_andW hc).1
     rw [hn] at h4
     exact h4
   have h5:=condW_of h4 (w_not (w_lt w_lit (w_len_list (w_arg rfl))))
   rw [List.length_map] at h5
   refine Nat.le_of_not_lt λq=>?_
   have q':(n:Int) < ((ns.length:Nat):Int):=by omega
   first
     | (rw [decide_eq_true q'] at h5;exact absurd h5 (by decide))
     | (simp at h5;omega)
 cases hwl with
 | cons w1 w2 =>
   cases w2
   cases w1 with
   | list ho hall=>exact ⟨_,_,ns,rfl,rfl,ho,ints_of_wellAll ns _ hall,hlen⟩

theorem post_true (l:OpenLaw) (args:List WData):l.row.toRowW.claim.post args (.bool true) args=true :=
 postW_of (r:=l.row.toRowW) (X:=(true == true))
   (show WShape.has [] (.bool true) .bool=true by first | rfl | decide | simp [WShape.has,WShape.arms,WShape.armsAll])
   (show (WTm.eq .res (.lit (.bool true))).value [] { args:=args,res:=some (.bool true),after:=args }=some (.bool (true == true)) from w_eq_bool (w_res rfl) w_lit) rfl

theorem attach_call {l:OpenLaw} {n:Nat} {q:Program} {loose:List Str} {XP:(Str->Option Value)->Heap->Prop} {YP:World->Heap->Prop} {d:DefRec}
   (hn:l.most=some n) (hdf:d.params.defaults=[])
   (call:∀ (w:World) (s₀ s₁:Shared) (mg mb:Str->Option Value) (fa:Addr) (o:Obj) (pm cd doc:Value) (a:Addr) (vs:List Value) (ns:List Int),
     Ground q loose [] XP w s₀ mg mb s₁.heap->YP w s₁.heap ->
     s₁.heap.get? fa=some o->o.data=.func (docDef d.name d.params d.body d.scope pm cd doc)->s₁.heap.CodeRec cd d.name->mg d.name=some (.ref fa) ->
     s₁.heap.get? a=some { cls:=.type "list",data:=.seq vs.toArray }->IntsAre vs ns->ns.length <= n->s₁.gens=#[] ->
     codeAny (model l.prog w) callerA (.call (.ref fa) ⟨[.ref a],[]⟩) (λr s'=>r=.ok (.ret (.bool true))/\OldK s₁.heap s'.heap/\s'.os=s₁.os/\AllBare s'.gens) s₁) :
   WalkO q loose XP YP l.row.toRowW d [] (λf vs=>PySem.call f vs):=by
 intro w s₀ s₁ mg mb G Y fa o pm cd doc dV kV ho hd hcd hD hmg hg args vals as hpre hlay hrd hwl hlo
 obtain rfl:dV=.none:=Dflts.none hD hdf
 obtain rfl:kV=.none:=Dflts.noKw hD
 obtain ⟨a,vs,ns,rfl,rfl,hobj,hints,hlen⟩:=script_of hn hpre hwl
 refine enter_call (codeAny_mono (call w s₀ s₁ mg mb fa o pm cd doc a vs ns G Y ho (fd_plain hd) hcd hmg hobj hints hlen hg) λr s' hq=>?_)
 obtain ⟨rfl,h2,h3,h4⟩:=hq
 exact ⟨.inl ⟨.bool true,.bool true,[],rfl,λ_=>rfl,.bool true,post_true l _,λ_=>⟨List.Pairwise.nil,λ_ hm=>(nomatch hm)⟩⟩,h2,h3,h4⟩

section
variable {prog:Program} {w:World} {A:Around} {E:Value->Shared->Prop} {s:Shared} {K:Frag}

def noObjs (h:Heap):Heap:={ h with objs:=#[] }
def ledger (h:Heap) (L d:Addr):List (Addr × Obj):=(List.range h.objs.size).filterMap λa=>if a=L\/a=d then none else (h.get? a).map λo=>(a,o)
end
end Att

namespace L2
open PySem PySem.Spec PyProof.Rows

theorem vals_ints:∀ {vs:List Value} {ns:List Int},IntsAre vs ns->Vals (ns.map V.int) vs
 | _,_,.nil=>.nil
 | _,_,.cons n t h=>.cons ⟨t,rfl⟩ (vals_ints h)

def Only (H:Hp):Prop:=∀ b,H b=none\/∃ o xs,H b=some (.frz o (.lst xs))

theorem law_call {P:Program} {w:World} {K:PySem.W.Frag} {mg mb:Str->Option Value} {CX:CXT} {k:Nat} {fa a:Addr} {fd:FuncData} {x:Str} {sp:Sp} {s₁:Shared} {vs:List Value} {ns:List Int}
   (KX:K.In s₁.heap) (hns:s₁.heap.Ns mainGlobals mg) (hb:s₁.heap.Ns builtinsNs mb) (hbb:∀ x:Str,x≠"__name__"->mb x=bootBuiltins x) (hlim:s₁.heap.NoLimit) (hg:s₁.gens=#[])
   (ha:s₁.heap.get? a=some { cls:=.type "list",data:=.seq vs.toArray }) (hi:IntsAre vs ns) (hl:ns.length <= sizeLine) (hr:Room k callerA)
   (F:∀ base:Heap,K.In base->base.Ns mainGlobals mg->FnOk P w K mg base CX k fa fd [x] sp) (hbind:∀ (s:Shared) (u:Value),BindsTo s fd ⟨[u],[]⟩ [(x,u)])
   (hsp:∀ H:Hp,Only H->SqL K H a (ns.map V.int)->sp [.ref a] H (λv _=>v=.bl true) λ_ _ _=>False)
   (hCX:∀ H e s',CX [] H s₁ (λ_ _ _=>False) e s'->False) :
   codeAny (model P w) callerA (.call (.ref fa) ⟨[.ref a],[]⟩) (λr s'=>r=.ok (.ret (.bool true))/\OldK s₁.heap s'.heap/\s'.os=s₁.os/\AllBare s'.gens) s₁:=by
 have rv:=vals_ints hi
 have lenV:=hi.length
 have core:∀ H:Hp,Only H->SqL K H a (ns.map V.int)->HOk P w H s₁.heap->(∀ b,H b≠none->b=a)->(H a≠none->K.lookup a=none) ->
     codeAny (model P w) callerA (.call (.ref fa) ⟨[.ref a],[]⟩) (λr s'=>r=.ok (.ret (.bool true))/\OldK s₁.heap s'.heap/\s'.os=s₁.os/\AllBare s'.gens) s₁:=by
   intro H hO hS hok hA hK
   have base_of:∀ {b:Addr} {o:Obj},s₁.heap.get? b=some o->H b=none->(hidT s₁.heap H).get? b=some o:=λe n=>hidT_get e n
   have noA:∀ {b:Addr} {o:Obj} {es:Array DictEntry} {ep:Nat},s₁.heap.get? b=some o->o.data=.dict es ep->H b=none:=λ{b o es ep} e d=>by
     cases q:H b with
     | none=>rfl
     | some u =>
       have e':b=a:=hA b (by rw [q];simp)
       subst e'
       rw [ha] at e;cases e
       have d':Data.seq vs.toArray _=Data.dict es ep:=d
       cases d'
   have nsK:∀ {b:Addr} {m:Str->Option Value},s₁.heap.Ns b m->(hidT s₁.heap H).Ns b m:=λ{b m} ⟨o,es,ep,e,d,r⟩=>⟨o,es,ep,base_of e (noA e d),d,r⟩
   have hKb:K.In (hidT s₁.heap H):=λb o e=>base_of (KX b o e) (by
     cases q:H b with
     | none=>rfl
     | some u =>
       have e':b=a:=hA b (by rw [q];simp)
       subst e'
       rw [hK (by rw [q];simp)] at e;cases e)
   have hM:Mod K mg (hidT s₁.heap H):=⟨hKb,nsK hns,⟨mb,nsK hb,hbb⟩,let ⟨mc,h1,h2⟩:=hlim;⟨mc,nsK h1,h2⟩⟩
   have e0:Env0 P w K mg (hidT s₁.heap H) callerA [] s₁ H:=⟨rfl,hM,λb o e=>of_hidT e,Nat.le_of_eq (hidT_size _ _),trivial,λb hb=>absurd (show b∈([]:List Addr) from hb) (by simp),hok,.of_eq hg⟩
   refine codeAny_mono ((F _ hKb (nsK hns)).run callerA [] s₁ H ⟨[.ref a],[]⟩ [.ref a] [.ref a] _ _ hr e0 (hbind s₁ (.ref a)) (.cons rfl .nil) (hsp H hO hS)) λr s' h=>?_
   cases r with
   | error e=>exact (hCX H e s' h).elim
   | ok fl =>
     cases fl with
     | next=>exact False.elim h
     | brk=>exact False.elim h
     | cont=>exact False.elim h
     | ret u =>
       obtain ⟨v,H',os,bare,un,hok',r',q⟩:=h
       have q':v=.bl true:=q
       subst q'
       obtain rfl:u=Value.bool true:=r'
       refine ⟨rfl,OldK.of_keep λb o e=>?_,os,bare⟩
       cases q:H b with
       | none=>exact un.keep b o e q (by intro z;exact absurd (show b∈([]:List Addr) from z) (by simp)) (by simp)
       | some u =>
         rcases hO b with z | ⟨ob,xs,z⟩
         · rw [q] at z;cases z
         · have z2:=un.frzs b ob _ z
           obtain ⟨e1,_⟩:=hok b _ z
           obtain ⟨e2,_⟩:=hok' b _ z2
           rw [e] at e1;cases e1
           exact e2
 cases hk:K.lookup a with
 | some o =>
   have e:=KX a o hk
   rw [ha] at e
   cases e
   refine core (λ_=>none) (λ_=>.inl rfl) (.inr ⟨_,vs.toArray,_,hk,rfl,rfl,rfl,by rw [List.size_toArray,lenV];exact hl,by simpa using rv⟩) (λb u z=>by have z':(none:Option HO)=some u:=z;cases z') (λb z=>absurd rfl z) λz=>absurd rfl z
 | none =>
   refine core (λb=>if b=a then some (.frz { cls:=.type "list",data:=.seq vs.toArray } (.lst (ns.map V.int))) else none) (λb=>?_) (.inl (.inr ⟨{ cls:=.type "list",data:=.seq vs.toArray },if_pos rfl⟩)) (λb u z=>?_) (λb z=>?_) λ_=>hk
   · by_cases hb:b=a
     · exact .inr ⟨_,_,if_pos hb⟩
     · exact .inl (if_neg hb)
   · by_cases hb:b=a
     · have z':=(if_pos hb).symm.trans z
       cases z'
       subst hb
       exact ⟨ha,by rw [List.length_map];exact hl,vs,_,rv,ha⟩
     · have z':=(if_neg hb).symm.trans z
       cases z'
   · by_cases hb:b=a
     · exact hb
     · exact absurd (if_neg hb) z
end L2

namespace L2
open PySem PySem.Spec PyProof.Rows

abbrev KOf {K:PySem.W.Frag} {h:Heap} (_:K.In h):PySem.W.Frag:=K

theorem walk_of {l:PySem.W.OpenLaw} {n k:Nat} {q:Program} {loose:List Str} {XP:(Str->Option Value)->Heap->Prop} {YP:World->Heap->Prop} {d:DefRec} {K:Params->PySem.W.Frag} {CX:World->CXT} {sp:World->Sp} {x:Str}
   (hn:l.most=some n) (hn2:n <= sizeLine) (hdf:d.params.defaults=[]) (hr:Room k callerA)
   (hY:∀ (w:World) (h:Heap),YP w h->(K w.params).In h)
   (F:∀ (w:World) (mg:Str->Option Value) (fa:Addr) (h:Heap),(K w.params).In h->h.Ns mainGlobals mg->mg d.name=some (.ref fa) ->
     ∃ fd:FuncData,(∀ (s:Shared) (u:Value),BindsTo s fd ⟨[u],[]⟩ [(x,u)]) /\
       ∀ base:Heap,(K w.params).In base->base.Ns mainGlobals mg->FnOk l.prog w (K w.params) mg base (CX w) k fa fd [x] (sp w))
   (hsp:∀ (w:World) (H:Hp) (a:Addr) (ns:List Int),ns.length <= n->Only H->SqL (K w.params) H a (ns.map V.int)->sp w [.ref a] H (λv _=>v=.bl true) λ_ _ _=>False)
   (hCX:∀ (w:World) (H:Hp) (s:Shared) (e:Value) (s':Shared),CX w [] H s (λ_ _ _=>False) e s'->False) :
   PySem.W.WalkO q loose XP YP l.row.toRowW d [] (λf vs=>PySem.call f vs):=by
 refine Att.attach_call hn hdf λw s₀ s₁ mg mb fa o pm cd doc a vs ns G Y ho hd hcd hmg hobj hints hlen hg=>?_
 have KX:=hY w _ Y
 obtain ⟨fd,hb,hF⟩:=F w mg fa _ KX G.T.g hmg
 exact law_call KX G.T.g G.T.b G.T.builtins G.T.nolimit hg hobj hints (Nat.le_trans hlen hn2) hr hF hb (λH hO hS=>hsp w H a ns hlen hO hS) λH e s'=>hCX w H s₁ e s'
end L2

namespace L2
open PySem PySem.Spec PyProof.Rows

def inClass (s:Stmt) (j:Nat):Stmt:=match s with
 | .ClassDef _ _ _ body _ _ _ _ _ _ _=>body.getD j (.Pass ⟨0,0,0,0⟩)
 | _=>.Pass ⟨0,0,0,0⟩
def defArgs (s:Stmt):Arguments:=match s with
 | .FunctionDef _ a _ _ _ _ _ _ _ _=>a
 | _=>{ posonlyargs:=[],args:=[],vararg:=none,kwonlyargs:=[],kw_defaults:=[],kwarg:=none,defaults:=[] }
def defBody (s:Stmt):List Stmt:=match s with
 | .FunctionDef _ _ b _ _ _ _ _ _ _=>b
 | _=>[]
def defScope (s:Stmt):Scope:=match s with
 | .FunctionDef _ _ _ _ _ _ sc _ _ _=>sc
 | _=>{ kind:=.function,names:=[],isGenerator:=false,isCoroutine:=false }

abbrev CX0:CXT:=λ_ _ _ _ _ _=>False
abbrev E0:XK:=λ_ _ _=>False
theorem pass0 {X:Cx}:Passes CX0 X E0:=λ_ _ _ _ _ _ _ h=>h.elim

structure Fun (K:PySem.W.Frag) (x qual:Str) (st:Stmt) (f:Addr) (fd:FuncData):Prop where
 ex:∃ (oc:Value) (od:Option Addr) (kV doc pm:Value) (an:Option Addr) (cdv ct:Value) (osl:Array (Option Value)),
   fd=PySem.W.fnOf x qual (defArgs st) (defBody st) (defScope st) .none kV doc pm an cdv ct/\K.lookup f=some ⟨oc,od,.func fd,osl⟩/\PySem.W.codeIn K cdv qual=true
 kp:PySem.W.keepIn K (.ref f)=true
section
variable {P:Program} {w:World} {K:PySem.W.Frag} {mg:Str->Option Value} {base:Heap}
theorem Fun.ok {x qual:Str} {st:Stmt} {f:Addr} {fd:FuncData} {N ps:List Str} {k:Nat} {sp:Sp} (F:Fun K x qual st f fd) (S:FnScope N ps (defScope st)) (len:∀ vs H Q E,sp vs H Q E->vs.length=ps.length)
   (hbody:∀ (cdv:Value) (A:Around) (outer:List Env) (s:Shared) (H:Hp) (vs:List V) (Q:VK) (E:XK),Room k (A.deeper (envOfC qual (defScope st) s.heap.objs.size f cdv))->sp vs H Q E ->
     ∃ t,PSs (cxOf CX0 P w K mg base N qual (defScope st) f cdv A outer s H E).nox (defBody st) t/\t { nx:=λ_ H'=>Q .non H',rt:=Q } (start N vs) H):FnOk P w K mg base CX0 (k+1) f fd ps sp:=by
 obtain ⟨oc,od,kV,doc,pm,an,cdv,ct,osl,rfl,lk,hcd⟩:=F.ex
 refine fn_of lk hcd S len λA outer s H vs Q E hr hsp=>?_
 obtain ⟨t,h,q⟩:=hbody cdv A outer s H vs Q E hr hsp
 exact ⟨t,h.nox,q⟩
theorem Fun.binds {x qual:Str} {st:Stmt} {f:Addr} {fd:FuncData} {ps:List Str} (F:Fun K x qual st f fd)
   (h:∀ (kV doc pm:Value) (an:Option Addr) (cdv ct:Value) (us:List Value),us.length=ps.length->bindArgs (PySem.W.fnOf x qual (defArgs st) (defBody st) (defScope st) .none kV doc pm an cdv ct) ⟨us,[]⟩=pure (ps.zip us)):Binds K fd ps []:=by
 obtain ⟨oc,od,kV,doc,pm,an,cdv,ct,osl,rfl,lk,hcd⟩:=F.ex
 exact .all (h kV doc pm an cdv ct)
theorem fun_mk {x qual:Str} {st:Stmt} {f:Addr} {oc:Value} {od an:Option Addr} {osl:Array (Option Value)} {kV doc pm cdv ct:Value} (l:K.lookup f=some ⟨oc,od,.func (PySem.W.fnOf x qual (defArgs st) (defBody st) (defScope st) .none kV doc pm an cdv ct),osl⟩)
   (c:PySem.W.codeIn K cdv qual=true) (k:PySem.W.keepIn K (.ref f)=true):Fun K x qual st f (PySem.W.fnOf x qual (defArgs st) (defBody st) (defScope st) .none kV doc pm an cdv ct):=⟨⟨oc,od,kV,doc,pm,an,cdv,ct,osl,rfl,l,c⟩,k⟩
end
theorem hu_of {A:Around} {k:Nat} (hr:Room k A):A.units+1 < cLine:=Nat.lt_of_le_of_lt (Nat.add_le_add_left (by decide:1 <= 64) _) hr.units
section
variable {X:Cx}
theorem pv (i:Nat) {x:Str} {pos:Pos} (hN:X.N[i]?=some x:=by rfl) (hv:Vis X.env.scope x:=by first | exact Or.inl rfl | exact Or.inr (Or.inl rfl) | exact Or.inr (Or.inr rfl)) (hd:(x == ("__debug__":Str))=false:=by decide)
   (hcd:(x == ("__classdict__":Str))=false:=by decide):PE X (.Name x pos) (tVar i):=pe_var hN hv hd hcd
end

theorem iteF {A B:Prop} (h:B):if false=true then A else B:=by
 rw [if_neg Bool.false_ne_true]
 exact h
theorem iteT {A B:Prop} (h:A):if true=true then A else B:=by
 rw [if_pos rfl]
 exact h
theorem ite2 {c A B:Prop} [Decidable c] (h1:c->A) (h2:¬ c->B):if c then A else B:=by
 by_cases h:c
 · rw [if_pos h]
   exact h1 h
 · rw [if_neg h]
   exact h2 h
theorem iteNS {c A B:Prop} [Decidable c] (hc:c) (h:B):if (!decide c)=true then A else B:=by
 rw [decide_eq_true hc]
 exact iteF h

def Same (H H':Hp):Prop:=∀ b o,H b=some o->H' b=some o
theorem Same.refl (H:Hp):Same H H:=λ_ _ h=>h
theorem Same.trans {H H1 H2:Hp} (a:Same H H1) (b:Same H1 H2):Same H H2:=λc o h=>b c o (a c o h)
theorem Same.free {H H':Hp} (e:Same H H') {l:Addr} (h:H' l=Option.none):H l=Option.none:=by
 cases q:H l with
 | none=>rfl
 | some o =>
   rw [e l o q] at h
   cases h
theorem Same.seq {K:PySem.W.Frag} {H H':Hp} {a:Addr} {xs:List V} (e:Same H H') (h:SqL K H a xs):SqL K H' a xs:=by
 rcases h with (h | ⟨o,h⟩) | h
 · exact .inl (.inl (e _ _ h))
 · exact .inl (.inr ⟨o,e _ _ h⟩)
 · exact .inr h

end L2

namespace L2
open PySem PySem.Spec PyProof.Rows
section
variable {X:Cx}
end
section
variable {κ:Type} [DecidableEq κ]
end
end L2


namespace L2
open PySem PySem.Spec PyProof.Rows
theorem bt_int:bootBuiltins "int"=some (.type "int"):=by decide +kernel
theorem bt_bool:bootBuiltins "bool"=some (.type "bool"):=by decide +kernel
theorem bt_list:bootBuiltins "list"=some (.type "list"):=by decide +kernel
theorem bt_tuple:bootBuiltins "tuple"=some (.type "tuple"):=by decide +kernel
theorem bt_str:bootBuiltins "str"=some (.type "str"):=by decide +kernel
theorem bt_reversed:bootBuiltins "reversed"=some (.type "reversed"):=by decide +kernel
theorem bt_isinstance:bootBuiltins "isinstance"=some (.builtin "isinstance"):=by decide +kernel
theorem bt_len:bootBuiltins "len"=some (.builtin "len"):=by decide +kernel
section
variable {X:Cx}
theorem call_isinst:CallR X (.builtin "isinstance") (λxs H Q=>∃ x c t b,xs=[x,V.ty c]/\TyOf X.K H x t/\PySem.W.kitOne X.K t (.type c)=some b/\Q (.bl b) H):=by
 intro pins s σ H xs us Q I r h
 obtain ⟨x,c,t,b,rfl,ty,e,q⟩:=h
 obtain ⟨u,w',rfl,ru,rw⟩:=vals2 r
 cases rw
 exact isinst_ok I ru ty e λtk=>⟨.bl b,H,I.tok _,rfl,q⟩
def CDivB (_i j:Int):Prop:=0 < j/\j < 2 ^ 40
theorem op_fdivB:OpR X (binaryOp .FloorDiv) (rI CDivB λi j=>.int (i / j)):=opI λi j _ _ _ _ _ hc q=>by
 have h1:(0:Int) < j:=hc.1
 have h2:j < 2 ^ 40:=hc.2
 refine floordiv_int (by omega) (by rw [Int.fdiv_eq_ediv_of_nonneg i (by omega)];exact q) (.inl (PyProof.noPylong_of_log2 ?_))
 have h3:j.natAbs≠0:=by omega
 have h4:j.natAbs.log2 < 40:=(Nat.log2_lt h3).mpr (by omega)
 omega
end
theorem iteC {c A B:Prop} [Decidable c] (hc:c) (h:A):if c then A else B:=by
 rw [if_pos hc];exact h
theorem iteN {c A B:Prop} [Decidable c] (hc:¬ c) (h:B):if c then A else B:=by
 rw [if_neg hc];exact h
theorem cmul_nn {i j:Int} (h0:0 <= i) (h1:i < 4294967296):CMul i j:=.inl ⟨Int.lt_of_lt_of_le (by decide) h0,Int.lt_trans h1 (by decide)⟩
theorem at_in {xs:List V} {i:Int} (h0:0 <= i) (h1:i < xs.length):∃ v,atI xs i=some v/\v∈xs:=by
 obtain ⟨n,rfl⟩:=Int.eq_ofNat_of_zero_le h0
 have hn:n < xs.length:=by omega
 exact ⟨xs[n],atI_nat (List.getElem?_eq_getElem hn),List.getElem_mem hn⟩
theorem same_new {H:Hp} {p:Addr} {o:HO} (h:H p=none):Same H (upd H p o):=λb u e=>by
 rw [upd_ne (ne_of_none e h)];exact e
end L2
namespace L2
open PySem PySem.Spec PyProof.Rows
section
variable {X:Cx}
def rCatS (K:PySem.W.Frag):R2:=λx y H Q=>∃ l b xs zs,x=.ref l/\y=.ref b/\SqL K H l xs/\SqL K H b zs/\xs.length+zs.length <= sizeLine/\∀ p,H p=none->Q (.ref p) (upd H p (.lst (xs++zs)))
end
end L2

set_option Elab.async false
set_option maxRecDepth 100000
set_option maxHeartbeats 4000000
namespace MX
open PySem PySem.W
mutual
def kd:PyData->Bool
 | .int _=>true
 | .str x=>PyData.strOk x
 | .tuple xs=>kds xs
 | .none=>false
 | .bool _=>false
 | .list _=>false
 | .dict _=>false
def kds:List PyData->Bool
 | []=>true
 | x :: xs=>kd x && kds xs
end
mutual
def hashD (w:World):PyData->Int
 | .int i=>hashInt i
 | .str x=>hashStr w x
 | .tuple xs=>reduceHash (Builtin.Tuple.tupleHashOf (hashDs w xs))
 | .none=>0
 | .bool _=>0
 | .list _=>0
 | .dict _=>0
def hashDs (w:World):List PyData->List Int
 | []=>[]
 | x :: xs=>hashD w x :: hashDs w xs
end
mutual
theorem kd_lay:∀ d:PyData,kd d=true->d.canLay0=true
 | .int _,_=>rfl
 | .str _,h=>h
 | .tuple xs,h=>kds_lay xs h
 | .none,h=>by cases h
 | .bool _,h=>by cases h
 | .list _,h=>by cases h
 | .dict _,h=>by cases h
theorem kds_lay:∀ xs:List PyData,kds xs=true->PyData.canLayAll0 xs=true
 | [],_=>rfl
 | x :: xs,h=>by
   have h':(kd x && kds xs)=true:=h
   rw [Bool.and_eq_true] at h'
   show (x.canLay0 && PyData.canLayAll0 xs)=true
   rw [kd_lay x h'.1,kds_lay xs h'.2];rfl
end
theorem iffF {p q:Prop} (h1:¬ p) (h2:¬ q):p ↔ q:=⟨λz=>(h1 z).elim,λz=>(h2 z).elim⟩
mutual
theorem eqv_iff:∀ d e:PyData,kd d=true->kd e=true->(PyData.eqv d e=true ↔ d=e)
 | .int a,.int b,_,_=>by
   show (a == b)=true ↔ _
   rw [beq_iff_eq];exact ⟨λz=>by rw [z],λz=>by injection z⟩
 | .str a,.str b,_,_=>by
   show (a == b)=true ↔ _
   rw [beq_iff_eq];exact ⟨λz=>by rw [z],λz=>by injection z⟩
 | .tuple xs,.tuple ys,h1,h2=>by
   have q:=eqvs_iff xs ys h1 h2
   show PyData.eqvAll xs ys=true ↔ _
   rw [q];exact ⟨λz=>by rw [z],λz=>by injection z⟩
 | .int _,.str _,_,_=>iffF (λz=>by cases z) (λz=>by cases z)
 | .int _,.tuple _,_,_=>iffF (λz=>by cases z) (λz=>by cases z)
 | .str _,.int _,_,_=>iffF (λz=>by cases z) (λz=>by cases z)
 | .str _,.tuple _,_,_=>iffF (λz=>by cases z) (λz=>by cases z)
 | .tuple _,.int _,_,_=>iffF (λz=>by cases z) (λz=>by cases z)
 | .tuple _,.str _,_,_=>iffF (λz=>by cases z) (λz=>by cases z)
theorem eqvs_iff:∀ xs ys:List PyData,kds xs=true->kds ys=true->(PyData.eqvAll xs ys=true ↔ xs=ys)
 | [],[],_,_=>⟨λ_=>rfl,λ_=>rfl⟩
 | [],_ :: _,_,_=>iffF (λz=>by cases z) (λz=>by cases z)
 | _ :: _,[],_,_=>iffF (λz=>by cases z) (λz=>by cases z)
 | x :: xs,y :: ys,h1,h2=>by
   have h1':(kd x && kds xs)=true:=h1
   have h2':(kd y && kds ys)=true:=h2
   rw [Bool.and_eq_true] at h1' h2'
   show (PyData.eqv x y && PyData.eqvAll xs ys)=true ↔ _
   rw [Bool.and_eq_true,eqv_iff x y h1'.1 h2'.1,eqvs_iff xs ys h1'.2 h2'.2]
   exact ⟨λz=>by rw [z.1,z.2],λz=>by injection z with a b;exact ⟨a,b⟩⟩
end
section
variable {prog:Program} {w:World} {E:Value->Shared->Prop}
mutual
theorem hash_go:∀ (k:PyData) (v:Value) (as:List Addr) (A:Around) (s:Shared) (Q:Int->Shared->Prop),kd k=true->Reads s.heap v k as->A.units+k.depth < cLine ->
   (∀ tk,Q (hashD w k) { s with toks:=tk })->wpAny (model prog w) A (pyHash v) Q E s
 | .int i,_,_,A,s,Q,_,x,_,h=>by cases x;exact wpAny_pyHash_int (h _)
 | .str y,_,_,A,s,Q,_,x,_,h=>by cases x;exact wpAny_pyHash_str (h _)
 | .tuple xs,_,_,A,s,Q,hk,x,hu,h=>by
   cases x with
   | @tuple a o vs n _ _ hg hc hdt hw =>
     refine pyHash_slot (T:="tuple") ⟨_,hg,hc⟩ F.slot_tuple_hash F.entry_tuple_hash (F.args_tuple_hash_1 _) (beq_builtin_none _) (.inr (Nat.lt_of_le_of_lt (Nat.le_add_right _ _) hu)) ?_
     show wpAny _ _ (Builtin.Tuple.tupleItemsOf (.ref a) >>= _) _ _ s
     refine wpAny_bind (wpAny_tupleItemsOf hg hdt (wpAny_bind ?_))
     rw [← Array.forIn_toList]
     refine hashs_go xs _ _ A.in1 s #[] _ hk hw (by simp only [PyData.depth,Around.in1_units] at hu ⊢;omega) λtk b hb=>?_
     show wpAny _ _ (retInt (Builtin.Tuple.tupleHashOf b.toList)) _ _ _
     rw [hb]
     exact wpAny_bind (wpAny_mkInt (wpAny_pure ⟨_,_,rfl,h _⟩))
 | .none,_,_,_,_,_,h,_,_,_=>by cases h
 | .bool _,_,_,_,_,_,h,_,_,_=>by cases h
 | .list _,_,_,_,_,_,h,_,_,_=>by cases h
 | .dict _,_,_,_,_,_,h,_,_,_=>by cases h
theorem hashs_go:∀ (xs:List PyData) (vs:List Value) (as:List Addr) (A:Around) (s:Shared) (b:Array Int) (Q:Array Int->Shared->Prop),kds xs=true->ReadsAll s.heap vs xs as->A.units+PyData.depthAll xs < cLine ->
   (∀ tk b',b'.toList=b.toList++hashDs w xs->Q b' { s with toks:=tk }) ->
   wpAny (model prog w) A (forIn vs b λx r=>do let h ← pyHash x;pure PUnit.unit;pure (ForInStep.yield (r.push h))) Q E s
 | [],_,_,A,s,b,Q,_,x,_,h=>by cases x;exact wpAny_pure (h s.toks b (by simp [hashDs]))
 | k :: xs,_,_,A,s,b,Q,hk,x,hu,h=>by
   cases x with
   | cons x1 x2 =>
     have hk':(kd k && kds xs)=true:=hk
     rw [Bool.and_eq_true] at hk'
     simp only [PyData.depthAll] at hu
     rw [List.forIn_cons]
     refine wpAny_bind (wpAny_bind (hash_go k _ _ A s _ hk'.1 x1 (by omega) λtk=>wpAny_bind (wpAny_pure (wpAny_pure ?_))))
     exact hashs_go xs _ _ A _ _ Q hk'.2 x2 (by omega) λtk' b' hb=>h tk' b' (by simp [hb,hashDs])
end
theorem quiet_go:∀ (n:Nat) (k:PyData) (v:Value) (as:List Addr) (A:Around) (s:Shared) (Q:Bool->Shared->Prop),kd k=true->Reads s.heap v k as->k.depth <= n ->
   Q true s->wpAny (model prog w) A (eqIsQuiet n v) Q E s:=by
 intro n
 induction n with
 | zero =>
   intro k v as A s Q hk x hu h
   cases x with
   | int i t=>rw [eqIsQuiet_byValue 0 rfl];exact wpAny_pure h
   | str i t=>rw [eqIsQuiet_byValue 0 rfl];exact wpAny_pure h
   | tuple=>simp only [PyData.depth] at hu;omega
   | none=>cases hk
   | bool=>cases hk
   | list=>cases hk
   | dict=>cases hk
 | succ n ih =>
   intro k v as A s Q hk x hu h
   cases x with
   | int i t=>rw [eqIsQuiet_byValue _ rfl];exact wpAny_pure h
   | str i t=>rw [eqIsQuiet_byValue _ rfl];exact wpAny_pure h
   | none=>cases hk
   | bool=>cases hk
   | list=>cases hk
   | dict=>cases hk
   | @tuple a o vs m xs _ hg hc hdt hw =>
     have hT:s.TypeIs (.ref a) "tuple":=⟨_,hg,hc⟩
     unfold eqIsQuiet
     refine wpAny_bind (wpAny_specialOf hT F.slot_tuple_eq.lookup ?_)
     show wpAny _ _ (isInstance (.ref a) (.type "tuple") >>= _) _ _ s
     refine wpAny_bind (wpAny_isInstance hT isSubtype_tuple_tuple ?_)
     simp only [Bool.not_true,Bool.false_eq_true,if_false]
     refine wpAny_bind (wpAny_seqItems hg hdt (wpAny_bind ?_))
     show wpAny _ _ (forIn vs _ _) _ _ s
     rw [← Array.forIn_toList]
     refine wpAny_forIn_list _ (λrest r s'=>r.1=none/\s'=s/\∃ ys bs,ReadsAll s.heap rest ys bs/\kds ys=true/\PyData.depthAll ys <= n) _ ?_ ?_ _ _
       ⟨rfl,rfl,xs,_,hw,hk,by simp only [PyData.depth] at hu;omega⟩
     · rintro y rest r s' ⟨hr,rfl,ys,bs,rd,hks,hdp⟩
       cases rd with
       | @cons _ _ d ds _ _ r1 r2 =>
         have hks':(kd d && kds ds)=true:=hks
         rw [Bool.and_eq_true] at hks'
         simp only [PyData.depthAll] at hdp
         refine wpAny_bind (ih d _ _ A _ _ hks'.1 r1 (by omega) ?_)
         simp only [Bool.not_true,Bool.false_eq_true,if_false]
         exact wpAny_pure ⟨rfl,rfl,ds,_,r2,hks'.2,by omega⟩
     · rintro ⟨r1,r2⟩ s' ⟨hr,rfl,_⟩
       simp only at hr
       subst hr
       exact wpAny_pure h
def Ent (w:World) (h:Heap) (k:PyData) (e:DictEntry):Prop:=kd k=true/\k.depth <= 8/\(∃ as,Reads h e.key k as)/\e.hash=hashD w k
def Ask (h:Heap) (k:PyData) (v:Value):Prop:=kd k=true/\k.depth <= 8/\(∃ as,Reads h v k as)/\((∃ x t,v=.str x t)\/∃ a,v=.ref a)
abbrev Ents (w:World) (h:Heap) (ks:List PyData) (es:List DictEntry):Prop:=Paired (Ent w h) ks es
theorem f2_get {α β:Type} {R:α->β->Prop}:∀ {xs:List α} {ys:List β},Paired R xs ys->∀ (j:Nat) (y:β),ys[j]?=some y->∃ x,xs[j]?=some x/\R x y
 | _,_,.nil,j,y,h=>by simp at h
 | _,_,.cons r t,0,y,h=>by simp at h;subst h;exact ⟨_,rfl,r⟩
 | _,_,.cons r t,j+1,y,h=>by
   obtain ⟨x,e,q⟩:=f2_get t j y (by simpa using h)
   exact ⟨x,by simpa using e,q⟩
theorem f2_get' {α β:Type} {R:α->β->Prop}:∀ {xs:List α} {ys:List β},Paired R xs ys->∀ (j:Nat) (x:α),xs[j]?=some x->∃ y,ys[j]?=some y/\R x y
 | _,_,.nil,j,y,h=>by simp at h
 | _,_,.cons r t,0,y,h=>by simp at h;subst h;exact ⟨_,rfl,r⟩
 | _,_,.cons r t,j+1,y,h=>by
   obtain ⟨x,e,q⟩:=f2_get' t j y (by simpa using h)
   exact ⟨x,by simpa using e,q⟩
theorem mem_places {n:Nat} {f:Nat->Option Int} {h:Int} {j:Nat} (hj:j < n) (e:f j=some h):j∈placesWithHash n f h:=by
 unfold placesWithHash
 exact List.mem_filter.mpr ⟨List.mem_range.mpr hj,by rw [e];simp⟩
theorem places_lt {n:Nat} {f:Nat->Option Int} {h:Int} {j:Nat} (hj:j∈placesWithHash n f h):j < n:=by
 unfold placesWithHash at hj
 exact List.mem_range.mp (List.mem_filter.mp hj).1
theorem places_nd {n:Nat} {f:Nat->Option Int} {h:Int}:(placesWithHash n f h).Nodup:=by
 unfold placesWithHash
 exact List.Nodup.sublist List.filter_sublist List.nodup_range
theorem nd_ix {α:Type} {xs:List α} (hn:xs.Nodup) {i j:Nat} {k:α} (hi:xs[i]?=some k) (hj:xs[j]?=some k):i=j :=
 (List.getElem?_inj (List.getElem?_eq_some_iff.mp hi).1 hn).mp (hi.trans hj.symm)
variable {A:Around} {s:Shared}
theorem find_D {d:Addr} {o:Obj} {es:Array DictEntry} {ep:Nat} {ks:List PyData} {k:PyData} {key:Value} {Q:Option Nat->Shared->Prop} (hu:A.units+8 < cLine) (hk:Ask s.heap k key)
   (ho:s.heap.get? d=some o) (hd:o.data=.dict es ep) (hes:Ents w s.heap ks es.toList) (hn:ks.Nodup) (hnone:k ∉ ks->Q none s) (hsome:∀ j:Nat,ks[j]?=some k->Q (some j) s) :
   wpAny (model prog w) A (dictFind d key (hashD w k)) Q E s:=by
 obtain ⟨kk,kdp,⟨as,kr⟩,ksh⟩:=hk
 have hget:∀ (j:Nat) (e:DictEntry),es[j]?=some e->∃ k',ks[j]?=some k'/\Ent w s.heap k' e:=λj e h=>f2_get hes j e (by rw [Array.getElem?_toList];exact h)
 have hget':∀ (j:Nat) (k':PyData),ks[j]?=some k'->∃ e,es[j]?=some e/\Ent w s.heap k' e:=λj k' h=>by
   obtain ⟨e,h1,h2⟩:=f2_get' hes j k' h
   exact ⟨e,by rw [← Array.getElem?_toList];exact h1,h2⟩
 have hplace:∀ j:Nat,ks[j]?=some k->j∈placesWithHash es.size (λi=>es[i]?.map (·.hash)) (hashD w k):=λj h=>by
   obtain ⟨e,h1,_,_,_,h2⟩:=hget' j k h
   exact mem_places (Array.getElem?_eq_some_iff.mp h1).1 (by rw [h1,← h2];rfl)
 have heq:∀ (k':PyData) (e:DictEntry) (R:Bool->Shared->Prop),Ent w s.heap k' e->(k'=k->R true s)->(k'≠k->R false s)->wpAny (model prog w) A (eqBool e.key key) R E s:=λk' e R h h1 h2=>by
   obtain ⟨ek,ed,⟨bs,er⟩,_⟩:=h
   refine SeqAt.eqAt_reads k' k A s _ _ _ _ er kr (kd_lay _ ek) (kd_lay _ kk) (by omega) prog w E R ?_
   by_cases z:k'=k
   · rw [(eqv_iff k' k ek kk).mpr z];exact h1 z
   · have:PyData.eqv k' k=false:=by
       cases q:PyData.eqv k' k with
       | false=>rfl
       | true=>exact absurd ((eqv_iff k' k ek kk).mp q) z
     rw [this];exact h2 z
 have none_of:(∀ j:Nat,ks[j]?=some k->j∈([]:List Nat))->Q none s:=λh=>hnone λm=>by
   obtain ⟨j,hj⟩:=List.mem_iff_getElem?.mp m
   exact absurd (h j hj) (by simp)
 have plain:wpAny (model prog w) A (dictWalkPlain d key (hashD w k) es (placesWithHash es.size (λi=>es[i]?.map (·.hash)) (hashD w k))) Q E s:=by
   refine wpAny_bind ?_
   refine wpAny_forIn_list _ (λrest b s'=>s'=s/\b=(none,())/\(∀ j:Nat,ks[j]?=some k->j∈rest)/\∀ j∈rest,j < es.size) _ ?_ ?_ _ _ ⟨rfl,rfl,hplace,λj=>places_lt⟩
   · rintro x rest b s' ⟨rfl,rfl,hin,hlt⟩
     have hx:=hlt x List.mem_cons_self
     have hlt':∀ j∈rest,j < es.size:=λj hj=>hlt j (List.mem_cons_of_mem _ hj)
     obtain ⟨k',hk',he⟩:=hget x es[x] (Array.getElem?_eq_getElem hx)
     have next:k'≠k->∀ j:Nat,ks[j]?=some k->j∈rest:=λz j hj=>by
       rcases List.mem_cons.mp (hin j hj) with q | q
       · subst q;rw [hk'] at hj;exact absurd (Option.some.inj hj) z
       · exact q
     simp only [Array.getElem?_eq_getElem hx]
     by_cases hh:(es[x].hash == hashD w k)=true
     · rw [if_pos hh]
       refine wpAny_bind (wpAny_dictEpoch ho hd (wpAny_bind (heq k' es[x] _ he (λz=>wpAny_bind (wpAny_dictEpoch ho hd ?_)) (λz=>wpAny_bind (wpAny_dictEpoch ho hd ?_)))))
       · show wpAny _ _ (if (ep != ep)=true then _ else _) _ E _
         rw [if_neg (by simp)]
         exact wpAny_bind (wpAny_rule (wpAny_pure (wpAny_pure (hsome x (z ▸ hk')))))
       · show wpAny _ _ (if (ep != ep)=true then _ else _) _ E _
         rw [if_neg (by simp)]
         exact wpAny_bind (wpAny_rule (wpAny_pure ⟨rfl,rfl,next z,hlt'⟩))
     · rw [if_neg hh]
       refine wpAny_pure ⟨rfl,rfl,next λz=>hh ?_,hlt'⟩
       rw [he.2.2.2,z];simp
   · rintro b s' ⟨rfl,rfl,hin,_⟩
     exact wpAny_pure (none_of hin)
 have hstored:∀ v∈(placesWithHash es.size (λi=>es[i]?.map (·.hash)) (hashD w k)).filterMap (λi=>es[i]?.map (·.key)),∃ k' bs,kd k'=true/\k'.depth <= 8/\Reads s.heap v k' bs:=λv hv=>by
   obtain ⟨i,_,hi⟩:=List.mem_filterMap.mp hv
   cases q:es[i]? with
   | none=>rw [q] at hi;cases hi
   | some e =>
     rw [q] at hi
     have z:e.key=v:=by simpa using hi
     obtain ⟨k',_,h1,h2,⟨bs,h3⟩,_⟩:=hget i e q
     exact ⟨k',bs,h1,h2,z ▸ h3⟩
 have htell:∀ (R:Bool->Shared->Prop),R false s->wpAny (model prog w) A (tableMayTell key ((placesWithHash es.size (λi=>es[i]?.map (·.hash)) (hashD w k)).filterMap (λi=>es[i]?.map (·.key)))) R E s:=λR h=>by
   unfold tableMayTell
   split
   · exact wpAny_pure h
   · refine wpAny_bind (quiet_go 8 k key _ A s _ kk kr kdp ?_)
     simp only [Bool.not_true,Bool.false_eq_true,if_false]
     refine wpAny_bind ?_
     refine wpAny_forIn_list _ (λrest r s'=>s'=s/\r=(none,())/\∀ v∈rest,∃ k' bs,kd k'=true/\k'.depth <= 8/\Reads s.heap v k' bs) _ ?_ ?_ _ _ ⟨rfl,rfl,hstored⟩
     · rintro x rest r s' ⟨rfl,rfl,hr⟩
       obtain ⟨k',bs,h1,h2,h3⟩:=hr x List.mem_cons_self
       refine wpAny_bind (quiet_go 8 k' x _ A _ _ h1 h3 h2 ?_)
       simp only [Bool.not_true,Bool.false_eq_true,if_false]
       exact wpAny_pure ⟨rfl,rfl,λv hv=>hr v (List.mem_cons_of_mem _ hv)⟩
     · rintro r s' ⟨rfl,rfl,_⟩
       exact wpAny_pure h
 have hany:∀ a:Addr,key=.ref a->¬ (es.any λe=>e.key == Value.ref a && e.hash != hashD w k)=true:=by
   rintro a rfl h
   rw [← Array.any_toList,List.any_eq_true] at h
   obtain ⟨e,hin,hc⟩:=h
   obtain ⟨j,hj⟩:=List.mem_iff_getElem?.mp hin
   obtain ⟨k',hk',h1,h2,⟨bs,h3⟩,h4⟩:=hget j e (by rw [← Array.getElem?_toList];exact hj)
   rw [Bool.and_eq_true] at hc
   have z1:e.key=.ref a:=beq_iff_eq.mp hc.1
   rw [z1] at h3
   have z2:=SeqAt.Reads.unique k' k _ _ _ (kd_lay _ h1) h3 kr
   rw [h4,z2] at hc
   simp at hc
 unfold dictFind
 refine wpAny_holding ?_
 refine wpAny_bind (wpAny_dictEntries ho hd ?_)
 dsimp only
 rcases ksh with ⟨x,t,rfl⟩ | ⟨a,rfl⟩
 · dsimp only
   by_cases hstr:(es.all λe=>isExactStrKey e.key)=true
   · rw [if_pos hstr]
     unfold foundByValue
     have kx:k=.str x:=by cases kr;rfl
     have hkey:∀ (j:Nat) (e:DictEntry),es[j]?=some e->∃ k',ks[j]?=some k'/\Ent w s.heap k' e/\(e.key.isStr x=true ↔ k'=k):=λj e h=>by
       obtain ⟨k',h1,h2⟩:=hget j e h
       refine ⟨k',h1,h2,?_⟩
       have hs:isExactStrKey e.key=true:=by
         have q:=Array.all_eq_true.mp hstr
         obtain ⟨hl,he⟩:=Array.getElem?_eq_some_iff.mp h
         have:=q j hl
         rw [he] at this;exact this
       obtain ⟨_,_,⟨bs,h3⟩,_⟩:=h2
       cases hv:e.key with
       | str y u =>
         rw [hv] at h3
         cases h3
         show (y == x)=true ↔ _
         rw [kx,beq_iff_eq]
         exact ⟨λz=>by rw [z],λz=>by injection z⟩
       | _=>rw [hv] at hs;cases hs
     cases hf:es.findIdx? (λe=>e.key.isStr x) with
     | none =>
       refine wpAny_pure (hnone λm=>?_)
       obtain ⟨j,hj⟩:=List.mem_iff_getElem?.mp m
       obtain ⟨e,he,_⟩:=hget' j k hj
       obtain ⟨k',h1,_,h2⟩:=hkey j e he
       rw [hj] at h1
       have h3:=Array.findIdx?_eq_none_iff.mp hf e (Array.mem_of_getElem? he)
       rw [h2.mpr (Option.some.inj h1).symm] at h3
       cases h3
     | some i =>
       obtain ⟨hlt,hi,_⟩:=Array.findIdx?_eq_some_iff_getElem.mp hf
       obtain ⟨k',h1,h2,h3⟩:=hkey i es[i] (Array.getElem?_eq_getElem hlt)
       have z:k'=k:=h3.mp hi
       simp only [Array.getElem?_eq_getElem hlt]
       refine wpAny_bind (wpAny_dictEpoch ho hd (wpAny_bind (heq k' es[i] _ h2 (λ_=>wpAny_bind (wpAny_dictEpoch ho hd ?_)) (λq=>absurd z q))))
       rw [if_neg (by simp)]
       simp only [if_true]
       exact wpAny_bind (wpAny_rule (wpAny_pure (hsome i (z ▸ h1))))
   · rw [if_neg hstr]
     by_cases hall:((Value.str x t :: (placesWithHash es.size (λi=>es[i]?.map (·.hash)) (hashD w k)).filterMap (λi=>es[i]?.map (·.key))).all carriedByValue)=true
     · rw [if_pos hall]
       exact plain
     · rw [if_neg hall]
       by_cases hone:(((placesWithHash es.size (λi=>es[i]?.map (·.hash)) (hashD w k)).filterMap (λi=>es[i]?.map (·.key))) == [Value.str x t])=true
       all_goals
         first
           | (rw [if_pos hone];refine wpAny_bind (wpAny_pure ?_))
           | (rw [if_neg hone];refine wpAny_bind (htell _ ?_))
         rw [if_neg (by simp)]
         refine wpAny_bind (wpAny_forIn_list _ (λrest b s'=>s'=s/\∃ hit,b=(none,hit)/\((hit=none/\∀ j:Nat,ks[j]?=some k->j∈rest)\/∃ j,hit=some j/\ks[j]?=some k/\j ∉ rest)/\(∀ j∈rest,j < es.size)/\rest.Nodup) _ ?_ ?_ _ _
           ⟨rfl,none,rfl,.inl ⟨rfl,hplace⟩,λj=>places_lt,places_nd⟩)
         · rintro x rest b s' ⟨rfl,hit,rfl,hin,hlt,hnd⟩
           have hx:=hlt x List.mem_cons_self
           have hlt':∀ j∈rest,j < es.size:=λj hj=>hlt j (List.mem_cons_of_mem _ hj)
           obtain ⟨hxr,hnd'⟩:=List.nodup_cons.mp hnd
           obtain ⟨k',hk',he⟩:=hget x es[x] (Array.getElem?_eq_getElem hx)
           have next:k'≠k->((hit=none/\∀ j:Nat,ks[j]?=some k->j∈rest)\/∃ j,hit=some j/\ks[j]?=some k/\j ∉ rest):=λz=>by
             rcases hin with ⟨h0,hin⟩ | ⟨j,h0,hj,hjr⟩
             · refine .inl ⟨h0,λj hj=>?_⟩
               rcases List.mem_cons.mp (hin j hj) with q | q
               · subst q;rw [hk'] at hj;exact absurd (Option.some.inj hj) z
               · exact q
             · exact .inr ⟨j,h0,hj,λq=>hjr (List.mem_cons_of_mem _ q)⟩
           simp only [Array.getElem?_eq_getElem hx]
           by_cases hh:(es[x].hash == hashD w k)=true
           · rw [if_pos hh]
             refine wpAny_bind (wpAny_dictEpoch ho hd (wpAny_bind (heq k' es[x] _ he (λz=>wpAny_bind (wpAny_dictEpoch ho hd ?_)) (λz=>wpAny_bind (wpAny_dictEpoch ho hd ?_)))))
             · rw [if_neg (by simp)]
               have hkx:ks[x]?=some k:=z ▸ hk'
               rcases hin with ⟨rfl,hin⟩ | ⟨j,_,hj,hjr⟩
               · simp only [Option.isSome_none,Bool.false_eq_true,if_false,if_true]
                 refine wpAny_bind (wpAny_rule ?_)
                 split
                 · exact wpAny_pure (wpAny_pure (hsome x hkx))
                 · exact wpAny_pure ⟨rfl,some x,rfl,.inr ⟨x,rfl,hkx,hxr⟩,hlt',hnd'⟩
               · exact absurd (nd_ix hn hj hkx ▸ List.mem_cons_self) hjr
             · rw [if_neg (by simp)]
               simp only [Bool.false_eq_true,if_false]
               refine wpAny_bind (wpAny_rule ?_)
               try rw [if_neg (by simp)]
               exact wpAny_pure ⟨rfl,hit,rfl,next z,hlt',hnd'⟩
           · rw [if_neg hh]
             refine wpAny_pure ⟨rfl,hit,rfl,next λz=>hh ?_,hlt',hnd'⟩
             rw [he.2.2.2,z];simp
         · rintro b s' ⟨rfl,hit,rfl,hin,_⟩
           rcases hin with ⟨rfl,hin⟩ | ⟨j,rfl,hj,_⟩
           · exact wpAny_pure (none_of hin)
           · exact wpAny_pure (hsome j hj)
 · dsimp only
   rw [if_neg (show ¬ ((Value.ref a :: (placesWithHash es.size (λi=>es[i]?.map (·.hash)) (hashD w k)).filterMap (λi=>es[i]?.map (·.key))).all carriedByValue)=true from by simp [carriedByValue]),if_neg (hany a rfl)]
   by_cases hone:(((placesWithHash es.size (λi=>es[i]?.map (·.hash)) (hashD w k)).filterMap (λi=>es[i]?.map (·.key))) == [Value.ref a])=true
   all_goals
     first
       | (rw [if_pos hone];refine wpAny_bind (wpAny_pure ?_))
       | (rw [if_neg hone];refine wpAny_bind (htell _ ?_))
     rw [if_neg (by simp)]
     refine wpAny_bind (wpAny_forIn_list _ (λrest b s'=>s'=s/\∃ hit,b=(none,hit)/\((hit=none/\∀ j:Nat,ks[j]?=some k->j∈rest)\/∃ j,hit=some j/\ks[j]?=some k/\j ∉ rest)/\(∀ j∈rest,j < es.size)/\rest.Nodup) _ ?_ ?_ _ _
       ⟨rfl,none,rfl,.inl ⟨rfl,hplace⟩,λj=>places_lt,places_nd⟩)
     · rintro x rest b s' ⟨rfl,hit,rfl,hin,hlt,hnd⟩
       have hx:=hlt x List.mem_cons_self
       have hlt':∀ j∈rest,j < es.size:=λj hj=>hlt j (List.mem_cons_of_mem _ hj)
       obtain ⟨hxr,hnd'⟩:=List.nodup_cons.mp hnd
       obtain ⟨k',hk',he⟩:=hget x es[x] (Array.getElem?_eq_getElem hx)
       have next:k'≠k->((hit=none/\∀ j:Nat,ks[j]?=some k->j∈rest)\/∃ j,hit=some j/\ks[j]?=some k/\j ∉ rest):=λz=>by
         rcases hin with ⟨h0,hin⟩ | ⟨j,h0,hj,hjr⟩
         · refine .inl ⟨h0,λj hj=>?_⟩
           rcases List.mem_cons.mp (hin j hj) with q | q
           · subst q;rw [hk'] at hj;exact absurd (Option.some.inj hj) z
           · exact q
         · exact .inr ⟨j,h0,hj,λq=>hjr (List.mem_cons_of_mem _ q)⟩
       simp only [Array.getElem?_eq_getElem hx]
       by_cases hh:(es[x].hash == hashD w k)=true
       · rw [if_pos hh]
         refine wpAny_bind (wpAny_dictEpoch ho hd (wpAny_bind (heq k' es[x] _ he (λz=>wpAny_bind (wpAny_dictEpoch ho hd ?_)) (λz=>wpAny_bind (wpAny_dictEpoch ho hd ?_)))))
         · rw [if_neg (by simp)]
           have hkx:ks[x]?=some k:=z ▸ hk'
           rcases hin with ⟨rfl,hin⟩ | ⟨j,_,hj,hjr⟩
           · simp only [Option.isSome_none,Bool.false_eq_true,if_false,if_true]
             refine wpAny_bind (wpAny_rule ?_)
             split
             · exact wpAny_pure (wpAny_pure (hsome x hkx))
             · exact wpAny_pure ⟨rfl,some x,rfl,.inr ⟨x,rfl,hkx,hxr⟩,hlt',hnd'⟩
           · exact absurd (nd_ix hn hj hkx ▸ List.mem_cons_self) hjr
         · rw [if_neg (by simp)]
           simp only [Bool.false_eq_true,if_false]
           refine wpAny_bind (wpAny_rule ?_)
           try rw [if_neg (by simp)]
           exact wpAny_pure ⟨rfl,hit,rfl,next z,hlt',hnd'⟩
       · rw [if_neg hh]
         refine wpAny_pure ⟨rfl,hit,rfl,next λz=>hh ?_,hlt',hnd'⟩
         rw [he.2.2.2,z];simp
     · rintro b s' ⟨rfl,hit,rfl,hin,_⟩
       rcases hin with ⟨rfl,hin⟩ | ⟨j,rfl,hj,_⟩
       · exact wpAny_pure (none_of hin)
       · exact wpAny_pure (hsome j hj)
def DictE (h:Heap) (d:Addr) (es:List DictEntry) (ep:Nat):Prop:=∃ o,h.get? d=some o/\o.ExactDict/\o.data=.dict es.toArray ep
def DictEs (h:Heap) (d:Addr) (es:List DictEntry):Prop:=∃ o ep,h.get? d=some o/\o.ExactDict/\o.data=.dict es.toArray ep
theorem DictEs.ep {h:Heap} {d:Addr} {es:List DictEntry} (x:DictEs h d es):∃ ep,DictE h d es ep:=let ⟨o,ep,e⟩:=x;⟨ep,o,e⟩
theorem DictE.es {h:Heap} {d:Addr} {es:List DictEntry} {ep:Nat} (x:DictE h d es ep):DictEs h d es:=let ⟨o,e⟩:=x;⟨o,ep,e⟩
theorem DictE.typeIs {s:Shared} {d:Addr} {es:List DictEntry} {ep:Nat} (x:DictE s.heap d es ep):s.TypeIs (.ref d) "dict":=let ⟨o,ho,hc,_⟩:=x;⟨o,ho,hc.1⟩
theorem DictEs.typeIs {s:Shared} {d:Addr} {es:List DictEntry} (x:DictEs s.heap d es):s.TypeIs (.ref d) "dict":=let ⟨o,_,ho,hc,_⟩:=x;⟨o,ho,hc.1⟩
theorem DictEs.toks {s:Shared} {d:Addr} {es:List DictEntry} (x:DictEs s.heap d es) (tk:Nat):DictEs ({ s with toks:=tk }:Shared).heap d es:=x
theorem get_D {d:Addr} {es:List DictEntry} {ks:List PyData} {k:PyData} {key:Value} {Q:Option Value->Shared->Prop} (hu:A.units+8 < cLine) (hk:Ask s.heap k key)
   (hm:DictEs s.heap d es) (hes:Ents w s.heap ks es) (hn:ks.Nodup) (hnone:k ∉ ks->∀ tk,Q none { s with toks:=tk })
   (hsome:∀ (j:Nat) (e:DictEntry),ks[j]?=some k->es[j]?=some e->∀ tk,Q (some e.val) { s with toks:=tk }):wpAny (model prog w) A (dictGet d key) Q E s:=by
 obtain ⟨o,ep,ho,hc,hd⟩:=hm
 obtain ⟨kk,kdp,⟨as,kr⟩,ksh⟩:=id hk
 unfold dictGet
 refine wpAny_holding (wpAny_bind (hash_go k key as A s _ kk kr (by omega) λtk=>wpAny_bind (find_D (s:={ s with toks:=tk }) hu hk ho hd hes hn ?_ ?_)))
 · exact λh=>wpAny_pure (hnone h tk)
 · intro j hj
   refine wpAny_bind (wpAny_dictEntries (s:={ s with toks:=tk }) ho hd ?_)
   obtain ⟨e,he,_⟩:=f2_get' hes j k hj
   have q:es.toArray[j]?=some e:=by rw [List.getElem?_toArray];exact he
   rw [q]
   exact wpAny_pure (hsome j e hj he tk)
theorem set_D {d:Addr} {es:List DictEntry} {ks:List PyData} {k:PyData} {key v:Value} {Q:Unit->Shared->Prop} (hu:A.units+8 < cLine) (hk:Ask s.heap k key)
   (hm:DictEs s.heap d es) (hes:Ents w s.heap ks es) (hn:ks.Nodup) (hsz:es.length <= sizeLine)
   (hQ:∀ (h':Heap) (tk:Nat) (es':List DictEntry),DictEs h' d es'->Heap.SameBut d s.heap h'->((k ∉ ks/\es'=es++[⟨hashD w k,key,v⟩])\/∃ j:Nat,ks[j]?=some k/\es'=es.modify j λe=>{ e with val:=v }) ->
     Q () { s with heap:=h',toks:=tk }):wpAny (model prog w) A (dictSet d key v) Q E s:=by
 obtain ⟨o,ep,ho,hc,hd⟩:=hm
 obtain ⟨kk,kdp,⟨as,kr⟩,ksh⟩:=id hk
 unfold dictSet
 refine wpAny_holding (wpAny_bind (hash_go k key as A s _ kk kr (by omega) λtk=>?_))
 unfold dictSetHashed
 refine wpAny_holding (wpAny_bind (find_D (s:={ s with toks:=tk }) hu hk ho hd hes hn ?_ ?_))
 · intro h
   refine wpAny_bind (wpAny_rule (wpAny_updateDictKeys (hz:=by simpa using hsz) (s:={ s with toks:=tk }) ho hd (hQ _ tk (es++[⟨hashD w k,key,v⟩]) ⟨_,ep+1,Heap.get?_update_self _ ho (Obj.isFreed_of_dict (Obj.data_mapDictKeys hd _)),hc.mapDictKeys _,?_⟩ (Heap.SameBut.update ..) (.inl ⟨h,rfl⟩))))
   rw [Obj.data_mapDictKeys hd _]
   simp
 · intro j hj
   refine wpAny_bind (wpAny_rule (wpAny_bind (wpAny_updateDict (s:={ s with toks:=tk }) ho hd (wpAny_point (hQ _ tk (es.modify j λe=>{ e with val:=v }) ⟨_,ep,Heap.get?_update_self _ ho (Obj.isFreed_of_dict (Obj.data_mapDict hd _)),hc.mapDict _,?_⟩ (Heap.SameBut.update ..) (.inr ⟨j,hj,rfl⟩))))))
   rw [Obj.data_mapDict hd _]
   simp
theorem meets_D (d:Addr) (key dflt:Value) (hd:(d == sysModules)=false) :
   MeetsIn prog w (Builtin.«dict.get» ⟨[.ref d,key,dflt],[]⟩) (λA R s=>A.in1.units+8 < cLine/\∃ k ks es,Ask s.heap k key/\DictEs s.heap d es/\Ents w s.heap ks es/\ks.Nodup /\
     (k ∉ ks->∀ tk,R (.ok (.ret dflt)) { s with toks:=tk })/\∀ (j:Nat) (e:DictEntry),ks[j]?=some k->es[j]?=some e->∀ tk,R (.ok (.ret e.val)) { s with toks:=tk }) :=
 .of_wp λA R s ⟨hu,k,ks,es,hk,hm,hes,hn,h1,h2⟩=>by
   show wpAny _ _ (dictGet d key >>= _) _ _ s
   refine wpAny_bind (get_D hu hk hm hes hn (λh tk=>?_) λj e hj he tk=>wpAny_pure ⟨_,rfl,h2 j e hj he tk⟩)
   show wpAny _ _ (Builtin.Dict.missed d key >>= _) _ _ _
   exact wpAny_bind (wpAny_missed_other hd (wpAny_pure ⟨dflt,rfl,h1 h tk⟩))
theorem put_D {d:Addr} {es:List DictEntry} {ks:List PyData} {k:PyData} {key v:Value} {Q:Unit->Shared->Prop} (hu:A.in1.units+8 < cLine) (hk:Ask s.heap k key)
   (hm:DictEs s.heap d es) (hes:Ents w s.heap ks es) (hn:ks.Nodup) (hsz:es.length <= sizeLine)
   (hQ:∀ (h':Heap) (tk:Nat) (es':List DictEntry),DictEs h' d es'->Heap.SameBut d s.heap h'->((k ∉ ks/\es'=es++[⟨hashD w k,key,v⟩])\/∃ j:Nat,ks[j]?=some k/\es'=es.modify j λe=>{ e with val:=v }) ->
     Q () { s with heap:=h',toks:=tk }):wpAny (model prog w) A (setItem (.ref d) key v) Q E s:=by
 unfold setItem
 refine wpAny_holding (wpAny_bind (wpAny_sequenceKey hm.typeIs (by decide) (wpAny_bind (wpAny_callSpecial?_slot (name:=Str.ofString "__setitem__") hm.typeIs slot_dict_setitem
   (wpAny_call_entry slot_dict_setitem hm.typeIs entry_dict_setitem ?_ (args_dict_setitem _ _ _))))))
 show wpAny _ _ (Builtin.Dict.notOrdered "__setitem__" ⟨[.ref d,key,v],[]⟩ >>= _) _ _ s
 refine wpAny_bind (wpAny_notOrdered_dict hm.typeIs ?_)
 show wpAny _ _ (dictSet d key v >>= _) _ _ s
 exact wpAny_bind (set_D hu hk hm hes hn hsz λh' tk es' a b c=>wpAny_pure ⟨.none,rfl,wpAny_pure (hQ h' tk es' a b c)⟩)
end
end MX

namespace L2
open PySem PySem.Spec PyProof.Rows
mutual
def DV (H:Hp):PyData->V->Prop
 | .none,x=>x=.non
 | .bool b,x=>x=.bl b
 | .int i,x=>x=.int i
 | .str t,x=>x=.str t
 | .list ds,x=>∃ (a:Addr) (vs:List V),x=.ref a/\H a=some (.lst vs)/\DVs H ds vs
 | .tuple ds,x=>∃ (a:Addr) (vs:List V),x=.ref a/\H a=some (.tup vs)/\DVs H ds vs
 | .dict _,_=>False
def DVs (H:Hp):List PyData->List V->Prop
 | [],vs=>vs=[]
 | d :: ds,vs=>∃ (v:V) (r:List V),vs=v :: r/\DV H d v/\DVs H ds r
end
section
variable {P:Program} {w:World} {H H':Hp} {h:Heap}
mutual
theorem DV.reads (ok:HOk P w H h):∀ (d:PyData) (x:V) (u:Value),DV H d x->RelV x u->∃ as,Reads h u d as
 | .none,_,_,e,r=>by cases e;cases r;exact ⟨_,.none⟩
 | .bool b,_,_,e,r=>by cases e;cases r;exact ⟨_,.bool b⟩
 | .int i,_,_,e,r=>by cases e;obtain ⟨t,rfl⟩:=r;exact ⟨_,.int i t⟩
 | .str y,_,_,e,r=>by cases e;obtain ⟨t,rfl⟩:=r;exact ⟨_,.str y t⟩
 | .list ds,_,_,e,r=>by
   obtain ⟨a,vs,rfl,ha,hv⟩:=e
   cases r
   obtain ⟨_,its,n,rv,hg⟩:=ok a _ ha
   obtain ⟨as,q⟩:=DVs.reads ok ds vs its hv rv
   exact ⟨_,.list hg rfl rfl (by simpa using q)⟩
 | .tuple ds,_,_,e,r=>by
   obtain ⟨a,vs,rfl,ha,hv⟩:=e
   cases r
   obtain ⟨_,its,rv,o,hg,hc,n,hd⟩:=ok a _ ha
   obtain ⟨as,q⟩:=DVs.reads ok ds vs its hv rv
   exact ⟨_,.tuple hg hc hd (by simpa using q)⟩
 | .dict _,_,_,e,_=>False.elim e
theorem DVs.reads (ok:HOk P w H h):∀ (ds:List PyData) (vs:List V) (us:List Value),DVs H ds vs->Vals vs us->∃ as,ReadsAll h us ds as
 | [],_,_,e,r=>by cases e;cases r;exact ⟨_,.nil⟩
 | d :: ds,_,_,e,r=>by
   obtain ⟨v,vs,rfl,h1,h2⟩:=e
   cases r with
   | cons r1 r2 =>
     obtain ⟨as,q1⟩:=DV.reads ok d _ _ h1 r1
     obtain ⟨bs,q2⟩:=DVs.reads ok ds _ _ h2 r2
     exact ⟨_,.cons q1 q2⟩
end
mutual
theorem DV.mono (hs:∀ b vs,H b=some (.lst vs)->H' b=some (.lst vs)) (ht:∀ b vs,H b=some (.tup vs)->H' b=some (.tup vs)):∀ (d:PyData) (x:V),DV H d x->DV H' d x
 | .none,_,e=>e
 | .bool _,_,e=>e
 | .int _,_,e=>e
 | .str _,_,e=>e
 | .list ds,_,⟨a,vs,e,ha,hv⟩=>⟨a,vs,e,hs _ _ ha,DVs.mono hs ht ds vs hv⟩
 | .tuple ds,_,⟨a,vs,e,ha,hv⟩=>⟨a,vs,e,ht _ _ ha,DVs.mono hs ht ds vs hv⟩
 | .dict _,_,e=>e
theorem DVs.mono (hs:∀ b vs,H b=some (.lst vs)->H' b=some (.lst vs)) (ht:∀ b vs,H b=some (.tup vs)->H' b=some (.tup vs)):∀ (ds:List PyData) (vs:List V),DVs H ds vs->DVs H' ds vs
 | [],_,e=>e
 | d :: ds,_,⟨v,r,e,h1,h2⟩=>⟨v,r,e,DV.mono hs ht d v h1,DVs.mono hs ht ds r h2⟩
end
mutual
theorem DV.keep (ht:∀ b vs,H b=some (.tup vs)->H' b=some (.tup vs)):∀ (d:PyData) (x:V),MX.kd d=true->DV H d x->DV H' d x
 | .int _,_,_,e=>e
 | .str _,_,_,e=>e
 | .tuple ds,_,k,⟨a,vs,e,ha,hv⟩=>⟨a,vs,e,ht _ _ ha,DVs.keep ht ds vs k hv⟩
 | .none,_,k,_=>by cases k
 | .bool _,_,k,_=>by cases k
 | .list _,_,k,_=>by cases k
 | .dict _,_,k,_=>by cases k
theorem DVs.keep (ht:∀ b vs,H b=some (.tup vs)->H' b=some (.tup vs)):∀ (ds:List PyData) (vs:List V),MX.kds ds=true->DVs H ds vs->DVs H' ds vs
 | [],_,_,e=>e
 | d :: ds,_,k,⟨v,r,e,h1,h2⟩=>by
   have k':(MX.kd d && MX.kds ds)=true:=k
   rw [Bool.and_eq_true] at k'
   exact ⟨v,r,e,DV.keep ht d v k'.1 h1,DVs.keep ht ds r k'.2 h2⟩
end
theorem DVs.length:∀ {ds:List PyData} {vs:List V},DVs H ds vs->vs.length=ds.length
 | [],_,e=>by cases e;rfl
 | d :: ds,_,⟨v,r,e,_,h2⟩=>by subst e;rw [List.length_cons,List.length_cons,DVs.length h2]
theorem DVs.get:∀ {ds:List PyData} {vs:List V} {j:Nat} {v:V},DVs H ds vs->vs[j]?=some v->∃ d,ds[j]?=some d/\DV H d v
 | [],_,j,v,e,g=>by cases e;simp at g
 | d :: ds,_,0,v,⟨v',r,e,h1,h2⟩,g=>by subst e;simp at g;subst g;exact ⟨d,rfl,h1⟩
 | d :: ds,_,j+1,v,⟨v',r,e,h1,h2⟩,g=>by
   subst e
   obtain ⟨d',a,b⟩:=DVs.get (j:=j) (v:=v) h2 (by simpa using g)
   exact ⟨d',by simpa using a,b⟩
theorem DVs.snoc:∀ {ds:List PyData} {vs:List V} {d:PyData} {v:V},DVs H ds vs->DV H d v->DVs H (ds++[d]) (vs++[v])
 | [],_,d,v,e,h=>by cases e;exact ⟨v,[],rfl,h,rfl⟩
 | c :: ds,_,d,v,⟨v',r,e,h1,h2⟩,h=>by subst e;exact ⟨v',r++[v],rfl,h1,DVs.snoc h2 h⟩
end
def LayD (d:PyData):Prop:=d.canLay0=true/\d.depth <= 16
theorem LayD.key {d:PyData} (h:MX.kd d=true) (h2:d.depth <= 8):LayD d:=⟨MX.kd_lay d h,by omega⟩
theorem LayD.int (i:Int):LayD (.int i):=⟨rfl,by show 0 <= 16;decide⟩
def rEqD (neg:Bool):R2:=λx y H Q=>∃ d e,DV H d x/\DV H e y/\LayD d/\LayD e/\Q (.bl (if neg then !PyData.eqv d e else PyData.eqv d e)) H
section
variable {X:Cx}
theorem op_eqD (hu:X.A.units+64 < cLine):OpR X (compareOp .Eq) (rEqD false):=by
 intro pins s σ H x y v u Q I rx ry h
 obtain ⟨d,e,h1,h2,l1,l2,q⟩:=h
 obtain ⟨as,r1⟩:=DV.reads I.hok d x v h1 rx
 obtain ⟨bs,r2⟩:=DV.reads I.hok e y u h2 ry
 exact SeqAt.compareEq_reads r1 r2 l1.1 l2.1 (by have:=l1.2;omega) ⟨.bl _,H,I,rfl,q⟩
theorem op_neD (hu:X.A.units+64 < cLine):OpR X (compareOp .NotEq) (rEqD true):=by
 intro pins s σ H x y v u Q I rx ry h
 obtain ⟨d,e,h1,h2,l1,l2,q⟩:=h
 obtain ⟨as,r1⟩:=DV.reads I.hok d x v h1 rx
 obtain ⟨bs,r2⟩:=DV.reads I.hok e y u h2 ry
 exact SeqAt.neOverData X.prog X.w X.A X.xe s v u d e as bs _ r1 r2 l1.1 l2.1 (by have:=l1.2;omega) ⟨.bl _,H,I,rfl,q⟩
end
def DObj (a:Addr) (es:List DictEntry) (ep:Nat):HO:=.ext λh=>(a == sysModules)=false/\MX.DictE h a es ep
def KEnt (w:World) (H:Hp) (p:PyData × V) (e:DictEntry):Prop:=MX.kd p.1=true/\p.1.depth <= 8/\e.hash=MX.hashD w p.1/\(∃ x,RelV x e.key/\DV H p.1 x)/\RelV p.2 e.val
def MD (w:World) (H:Hp) (a:Addr) (kvs:List (PyData × V)):Prop:=∃ es ep,H a=some (DObj a es ep)/\Paired (KEnt w H) kvs es/\(kvs.map (·.1)).Nodup/\kvs.length <= sizeLine
def KeyV (H:Hp) (k:PyData) (y:V):Prop:=MX.kd k=true/\k.depth <= 8/\DV H k y/\((∃ t,y=.str t)\/∃ b,y=.ref b)
def lookD (kvs:List (PyData × V)) (k:PyData):Option V:=(kvs.find? λp=>PyData.eqv p.1 k).map (·.2)
def putD (kvs:List (PyData × V)) (k:PyData) (v:V):List (PyData × V) :=
 if (kvs.any λp=>PyData.eqv p.1 k)=true then kvs.map (λp=>if PyData.eqv p.1 k=true then (p.1,v) else p) else kvs++[(k,v)]
theorem DObj.ok {P:Program} {w:World} {H:Hp} {h:Heap} {a:Addr} {es:List DictEntry} {ep:Nat} (hs:(a == sysModules)=false) (hm:MX.DictE h a es ep):ObjOk P w H h a (DObj a es ep):=by
 refine ⟨⟨hs,hm⟩,?_,λh1 h2 ⟨z,o,e,r⟩ k=>⟨z,o,k o e,r⟩⟩
 obtain ⟨o,e,_⟩:=hm
 exact ⟨o,e⟩
theorem DObj.of {P:Program} {w:World} {H:Hp} {h:Heap} {a:Addr} {es:List DictEntry} {ep:Nat} (ok:HOk P w H h) (e:H a=some (DObj a es ep)):(a == sysModules)=false/\MX.DictE h a es ep:=by
 obtain ⟨q,_⟩:=ok a _ e
 exact q
theorem Paired.keys {w:World} {H:Hp}:∀ {kvs:List (PyData × V)} {es:List DictEntry},Paired (KEnt w H) kvs es->kvs.length=es.length
 | _,_,.nil=>rfl
 | _,_,.cons _ t=>by rw [List.length_cons,List.length_cons,Paired.keys t]
theorem ents_of {P:Program} {w:World} {H:Hp} {h:Heap} (ok:HOk P w H h):∀ {kvs:List (PyData × V)} {es:List DictEntry},Paired (KEnt w H) kvs es->MX.Ents w h (kvs.map (·.1)) es
 | _,_,.nil=>.nil
 | _,_,.cons ⟨k1,k2,k3,⟨x,rx,dx⟩,_⟩ t=>.cons ⟨k1,k2,DV.reads ok _ _ _ dx rx,k3⟩ (ents_of ok t)
theorem ask_of {P:Program} {w:World} {H:Hp} {h:Heap} {k:PyData} {y:V} {u:Value} (ok:HOk P w H h) (hk:KeyV H k y) (r:RelV y u):MX.Ask h k u:=by
 obtain ⟨k1,k2,k3,k4⟩:=hk
 refine ⟨k1,k2,DV.reads ok _ _ _ k3 r,?_⟩
 rcases k4 with ⟨t,rfl⟩ | ⟨b,rfl⟩
 · obtain ⟨tk,rfl⟩:=r;exact .inl ⟨_,_,rfl⟩
 · cases r;exact .inr ⟨_,rfl⟩
section
variable {w:World} {H:Hp}
theorem eqv_false {d e:PyData} (h1:MX.kd d=true) (h2:MX.kd e=true) (n:d≠e):PyData.eqv d e=false:=by
 cases q:PyData.eqv d e with
 | false=>rfl
 | true=>exact absurd ((MX.eqv_iff d e h1 h2).mp q) n
theorem eqv_self {d:PyData} (h1:MX.kd d=true):PyData.eqv d d=true:=(MX.eqv_iff d d h1 h1).mpr rfl
def KK (kvs:List (PyData × V)):Prop:=∀ p∈kvs,MX.kd p.1=true
theorem KK.of {kvs:List (PyData × V)} {es:List DictEntry}:Paired (KEnt w H) kvs es->KK kvs:=by
 intro r
 induction r with
 | nil=>intro p h;cases h
 | cons a _ ih =>
   intro p h
   rcases List.mem_cons.mp h with rfl | h
   · exact a.1
   · exact ih p h
theorem lookD_at {k:PyData} (hk:MX.kd k=true):∀ {kvs:List (PyData × V)} {j:Nat},KK kvs->(kvs.map (·.1)).Nodup->(kvs.map (·.1))[j]?=some k->∃ v,kvs[j]?=some (k,v)/\lookD kvs k=some v
 | [],j,_,_,e=>by simp at e
 | (a,v) :: r,0,kk,_,e=>by
   simp at e;subst e
   refine ⟨v,rfl,?_⟩
   unfold lookD
   rw [List.find?_cons,eqv_self hk];rfl
 | (a,v) :: r,j+1,kk,nd,e=>by
   have nd':(a :: r.map (·.1)).Nodup:=nd
   obtain ⟨n1,n2⟩:=List.nodup_cons.mp nd'
   have e':(r.map (·.1))[j]?=some k:=by simpa using e
   obtain ⟨v',h1,h2⟩:=lookD_at hk (λp h=>kk p (List.mem_cons_of_mem _ h)) n2 e'
   refine ⟨v',by simpa using h1,?_⟩
   have ne:a≠k:=λz=>n1 (by rw [z];exact List.mem_of_getElem? e')
   unfold lookD at h2 ⊢
   rw [List.find?_cons,eqv_false (kk _ List.mem_cons_self) hk ne]
   exact h2
theorem lookD_no {k:PyData} (hk:MX.kd k=true) {kvs:List (PyData × V)} (kk:KK kvs) (n:k ∉ kvs.map (·.1)):lookD kvs k=none:=by
 unfold lookD
 rw [List.find?_eq_none.mpr λp hp=>?_]
 · rfl
 · rw [eqv_false (kk p hp) hk λz=>n (List.mem_map.mpr ⟨p,hp,z⟩)];decide
theorem putD_no {k:PyData} (hk:MX.kd k=true) {kvs:List (PyData × V)} (kk:KK kvs) (n:k ∉ kvs.map (·.1)) (v:V):putD kvs k v=kvs++[(k,v)]:=by
 unfold putD
 rw [if_neg]
 intro h
 obtain ⟨p,hp,e⟩:=List.any_eq_true.mp h
 exact n (List.mem_map.mpr ⟨p,hp,(MX.eqv_iff _ _ (kk p hp) hk).mp e⟩)
theorem map_put_id {k:PyData} (hk:MX.kd k=true) {kvs:List (PyData × V)} (kk:KK kvs) (n:k ∉ kvs.map (·.1)) (v:V):kvs.map (λp=>if PyData.eqv p.1 k=true then (p.1,v) else p)=kvs:=by
 induction kvs with
 | nil=>rfl
 | cons p r ih =>
   have hp:p.1≠k:=λz=>n (List.mem_map.mpr ⟨p,List.mem_cons_self,z⟩)
   rw [List.map_cons,eqv_false (kk p List.mem_cons_self) hk hp,ih (λq h=>kk q (List.mem_cons_of_mem _ h)) λh=>n (by rw [List.map_cons];exact List.mem_cons_of_mem _ h)]
   simp
theorem put_at {k:PyData} (hk:MX.kd k=true) {v:V} {u:Value} (rv:RelV v u):∀ {kvs:List (PyData × V)} {es:List DictEntry} {j:Nat},Paired (KEnt w H) kvs es->(kvs.map (·.1)).Nodup->(kvs.map (·.1))[j]?=some k ->
   Paired (KEnt w H) (kvs.map (λp=>if PyData.eqv p.1 k=true then (p.1,v) else p)) (es.modify j λe=>{ e with val:=u })
 | _,_,j,.nil,_,e=>by simp at e
 | (a,v') :: r,e0 :: es,0,.cons q t,nd,e=>by
   simp at e;subst e
   have nd':(a :: r.map (·.1)).Nodup:=nd
   rw [List.map_cons,eqv_self hk,map_put_id hk (KK.of t) (List.nodup_cons.mp nd').1]
   exact .cons ⟨q.1,q.2.1,q.2.2.1,q.2.2.2.1,rv⟩ t
 | (a,v') :: r,e0 :: es,j+1,.cons q t,nd,e=>by
   have nd':(a :: r.map (·.1)).Nodup:=nd
   obtain ⟨n1,n2⟩:=List.nodup_cons.mp nd'
   have e':(r.map (·.1))[j]?=some k:=by simpa using e
   have ne:a≠k:=λz=>n1 (by rw [z];exact List.mem_of_getElem? e')
   rw [List.map_cons,eqv_false q.1 hk ne]
   exact .cons q (put_at hk rv t n2 e')
theorem any_of {k:PyData} (hk:MX.kd k=true) {kvs:List (PyData × V)} {j:Nat} (e:(kvs.map (·.1))[j]?=some k):(kvs.any λp=>PyData.eqv p.1 k)=true:=by
 obtain ⟨p,hp,z⟩:=List.mem_map.mp (List.mem_of_getElem? e)
 exact List.any_eq_true.mpr ⟨p,hp,by rw [z];exact eqv_self hk⟩
theorem keys_putD {k:PyData} {v:V} {kvs:List (PyData × V)}:(kvs.map (λp=>if PyData.eqv p.1 k=true then (p.1,v) else p)).map (·.1)=kvs.map (·.1):=by
 rw [List.map_map]
 congr 1
 funext p
 show (if PyData.eqv p.1 k=true then (p.1,v) else p).1=p.1
 split<;>rfl
theorem len_putD (kvs:List (PyData × V)) (k:PyData) (v:V):(putD kvs k v).length <= kvs.length+1:=by
 unfold putD
 split
 · rw [List.length_map];omega
 · rw [List.length_append];exact Nat.le_refl _
end
section
variable {w:World} {H H':Hp} {a:Addr} {kvs:List (PyData × V)}
theorem KEnt.keep (ht:∀ b vs,H b=some (.tup vs)->H' b=some (.tup vs)) {p:PyData × V} {e:DictEntry} (q:KEnt w H p e):KEnt w H' p e:=by
 obtain ⟨k1,k2,k3,⟨x,rx,dx⟩,k5⟩:=q
 exact ⟨k1,k2,k3,⟨x,rx,DV.keep ht _ _ k1 dx⟩,k5⟩
theorem MD.keep (m:MD w H a kvs) (ha:H' a=H a) (ht:∀ b vs,H b=some (.tup vs)->H' b=some (.tup vs)):MD w H' a kvs:=by
 obtain ⟨es,ep,h1,h2,h3⟩:=m
 exact ⟨es,ep,by rw [ha];exact h1,Paired.mapP h2 λ_ _ q=>q.keep ht,h3⟩
end
section
variable {X:Cx} {pins:List (Addr × Obj)} {σ:St} {H:Hp} {s:Shared} {a:Addr} {kvs:List (PyData × V)} {k:PyData} {y v d:V} {u r:Value} {A:Around} {E:Value->Shared->Prop}
theorem in1u {A:Around} (hu:A.units+64 < cLine):A.in1.units+8 < cLine:=by
 rw [Around.in1_units];omega
theorem md_get2 {Q:Value->Shared->Prop} (hu:A.units+64 < cLine) (I:Inv X pins σ H s) (m:MD X.w H a kvs) (hk:KeyV H k y) (ry:RelV y u) (rd:RelV d r) (h:∀ w' s',Inv X pins σ H s'->RelV ((lookD kvs k).getD d) w'->Q w' s') :
   wpAny (model X.prog X.w) A (call (.builtin "dict.get") [.ref a,u,r]) Q E s:=by
 obtain ⟨es,ep,h1,h2,h3,h4⟩:=m
 obtain ⟨hs,hme⟩:=DObj.of I.hok h1
 have hm:=hme.es
 refine call_meetsIn PySem.F.slot_dict_get hm.typeIs PySem.F.entry_dict_get (PySem.F.args_dict_get_3 _ _ _) (MX.meets_D a u r hs) ⟨in1u hu,k,_,es,ask_of I.hok hk ry,hm,ents_of I.hok h2,h3,λn tk=>h _ _ (I.tok _) ?_,λj e hj he tk=>h _ _ (I.tok _) ?_⟩
 · rw [lookD_no hk.1 (KK.of h2) n];exact rd
 · obtain ⟨v',g1,g2⟩:=lookD_at hk.1 (KK.of h2) h3 hj
   rw [g2]
   obtain ⟨p,e1,e2⟩:=MX.f2_get h2 j e he
   rw [g1] at e1;cases e1
   exact e2.2.2.2.2
theorem md_put {Q:Unit->Shared->Prop} (hu:A.units+64 < cLine) (I:Inv X pins σ H s) (m:MD X.w H a kvs) (hl:kvs.length < sizeLine) (hk:KeyV H k y) (ry:RelV y u) (rv:RelV v r)
   (h:∀ H' s',Inv X pins σ H' s'->(∀ b,b≠a->H' b=H b)->MD X.w H' a (putD kvs k v)->Q () s'):wpAny (model X.prog X.w) A (setItem (.ref a) u r) Q E s:=by
 obtain ⟨es,ep,h1,h2,h3,h4⟩:=m
 obtain ⟨hs,hme⟩:=DObj.of I.hok h1
 have hm:=hme.es
 have kk:=KK.of h2
 have hz:es.length <= sizeLine:=by rw [← Paired.keys h2];omega
 refine MX.put_D (in1u hu) (ask_of I.hok hk ry) hm (ents_of I.hok h2) h3 hz λh' tk es' hm' hsb hor=>?_
 obtain ⟨ep',hm2⟩:=hm'.ep
 have I':Inv X pins σ (upd H a (DObj a es' ep')) { s with heap:=h',toks:=tk }:=d_write I (by rw [h1];exact True.intro) hsb (let ⟨o,e,_⟩:=hm2;⟨o,e⟩) (DObj.ok hs hm2)
 refine h _ _ I' (λb hb=>upd_ne hb) ⟨es',ep',upd_same,?_⟩
 have ht:∀ b vs,H b=some (.tup vs)->upd H a (DObj a es' ep') b=some (.tup vs):=λb vs e=>by
   rw [upd_ne (ne_of e h1 (by intro z;cases z))];exact e
 rcases hor with ⟨n,rfl⟩ | ⟨j,hj,rfl⟩
 · rw [putD_no hk.1 kk n]
   refine ⟨?_,?_,by rw [List.length_append];show kvs.length+1 <= sizeLine;omega⟩
   · refine Paired.snoc (Paired.mapP h2 λ_ _ q=>q.keep ht) ⟨hk.1,hk.2.1,rfl,⟨y,ry,DV.keep ht _ _ hk.1 hk.2.2.1⟩,rv⟩
   · rw [List.map_append]
     exact nd_snocP h3 n
 · have e:putD kvs k v=kvs.map (λp=>if PyData.eqv p.1 k=true then (p.1,v) else p):=by
     unfold putD;rw [if_pos (any_of hk.1 hj)]
   rw [e]
   exact ⟨Paired.mapP (put_at hk.1 rv h2 h3 hj) λ_ _ q=>q.keep ht,by rw [keys_putD];exact h3,by rw [List.length_map];exact h4⟩
where
 nd_snocP {l:List PyData} {k:PyData} (hn:l.Nodup) (hk:k ∉ l):(l++[k]).Nodup:=by
   rw [List.nodup_append]
   exact ⟨hn,by simp,λx hx y hy=>by
     rw [List.mem_singleton.mp hy];exact λz=>hk (z ▸ hx)⟩
end
end L2

namespace L2
open PySem PySem.Spec PyProof.Rows
def tMNew:TE:=λ_ H Q=>∀ p,H p=none->Q (.ref p) (upd H p (DObj p [] 0))
theorem MD.nil {w:World} {H:Hp} {p:Addr}:MD w (upd H p (DObj p [] 0)) p []:=⟨[],0,upd_same,.nil,List.nodup_nil,Nat.zero_le _⟩
def sMPut (w:World) (td ty tv:TE):TS:=λD σ H=>tv σ H λv H1=>td σ H1 λx H2=>ty σ H2 λy H3=>∃ a kvs k,x=.ref a/\MD w H3 a kvs/\kvs.length < sizeLine/\KeyV H3 k y /\
 ∀ H4,(∀ b,b≠a->H4 b=H3 b)->MD w H4 a (putD kvs k v)->D.nx σ H4
def tMGet2 (w:World) (td ty tx:TE):TE:=λσ H Q=>td σ H λx H1=>∃ a,x=.ref a/\(∃ kvs,MD w H1 a kvs)/\ty σ H1 λy H2=>tx σ H2 λz H3=>∃ kvs k,MD w H3 a kvs/\KeyV H3 k y/\Q ((lookD kvs k).getD z) H3
def tMItem (w:World) (td ty:TE):TE:=λσ H Q=>td σ H λx H1=>ty σ H1 λy H2=>∃ a kvs k v,x=.ref a/\MD w H2 a kvs/\KeyV H2 k y/\lookD kvs k=some v/\Q v H2
section
variable {X:Cx} {o i e f value:Expr} {pos pos' apos cpos:Pos} {td ty tv tx:TE}
theorem pe_mnew:PE X (.Dict [] [] pos) tMNew:=λpins s σ H Q I h =>
 wpAny_Dict_empty ⟨.ref s.heap.objs.size,_,I.laid (a:=s.heap.objs.size) (o:=DObj s.heap.objs.size [] 0) (t':=s.toks) (λ_ _ q=>Heap.get?_push_of_some _ q) (Nat.le_refl _)
   (DObj.ok (beq_eq_false_iff_ne.mpr (Ne.symm (Nat.ne_of_lt I.big))) ⟨_,Heap.get?_push_size _ rfl,⟨rfl,rfl,rfl⟩,rfl⟩),rfl,h _ (I.hok.fresh (Nat.le_refl _))⟩
theorem ps_mput (hu:X.A.units+64 < cLine) (ho:PE X o td) (hi:PE X i ty) (hv:PE X value tv) (hs:swapsWith value (some (.Subscript o i pos')) pos.line X.env=pure false) :
   PS X (.Assign [.Subscript o i pos'] value pos) (sMPut X.w td ty tv):=by
 intro pins s σ H D I h
 refine wpAny_Assign_Subscript (thn (hv pins s σ H _ I h) λr s1 ⟨v,H1,I1,rv,q1⟩=>thn (ho pins s1 σ H1 _ I1 q1) λu s2 ⟨x,H2,I2,rx,q2⟩=>thn (hi pins s2 σ H2 _ I2 q2) λiv s3 ⟨y,H3,I3,ry,a,kvs,k,ex,m,hl,hk,q3⟩=>?_) hs
 subst ex
 obtain rfl:u=Value.ref a:=rx
 exact md_put hu I3 m hl hk ry rv λH4 s4 I4 g1 g2=>⟨σ,H4,I4,q3 H4 g1 g2⟩
theorem pe_mget2 (hu:X.A.units+64 < cLine) (ho:PE X o td) (he:PE X e ty) (hf:PE X f tx) (m:M2 X o "get" apos e f cpos):PE X (.Call (.Attribute o "get" apos) [e,f] [] cpos) (tMGet2 X.w td ty tx):=by
 intro pins s σ H Q I h
 refine wpAny_Call_method m.base m.few m.line PySem.F.plainAttrs_dict PySem.F.slot_dict_get PySem.F.type_dict_get (thn (ho pins s σ H _ I h) λu s1 ⟨x,H1,I1,rx,a,ex,⟨kv0,es,ep,e1,_⟩,q1⟩=>?_)
 subst ex
 obtain rfl:u=Value.ref a:=rx
 obtain ⟨_,ob,g1,g2,g3⟩:=DObj.of I1.hok e1
 refine ⟨⟨ob,g1,g2.1⟩,λb eb=>by injection eb with eb;subst eb;exact ⟨ob,g1,g2.2.1⟩,?_⟩
 rw [m.trees]
 refine Calls.callWith_builtin rfl (Calls.evalArgs_plain (Calls.spliced_cons (thn (he pins s1 σ H1 _ I1 q1) λiv s2 ⟨y,H2,I2,ry,q2⟩ =>
   Calls.spliced_cons (thn (hf pins s2 σ H2 _ I2 q2) λfv s3 ⟨z,H3,I3,rz,kvs,k,md,hk,q3⟩=>Calls.spliced_nil ?_))))
 exact md_get2 hu I3 md hk ry rz λw' s4 I4 rw'=>⟨_,H3,I4,rw',q3⟩
end
def Itv (K:PySem.W.Frag) (a:Addr) (n:Nat):It :=
 ⟨λi H=>i < n/\∃ xs,SqL K H a xs/\xs.length=n,λi H x H'=>H'=H/\∀ xs,SqL K H a xs->xs[n - 1 - i]?=some x,λi _=>i=n⟩
theorem turn_rev {P:Program} {w:World} {K:PySem.W.Frag} {tg:Expr} (a it:Addr) (n:Nat):Turn P w K tg (Itv K a n) [it] it (λi h=>h.IsRevIter it a ((n:Int) - 1 - i)) where
 mem:=List.mem_singleton.mpr rfl
 obj:=λi h st b hb=>by
   obtain rfl:b=it:=List.mem_singleton.mp hb
   obtain ⟨o,e,c,d⟩:=st
   exact ⟨o,e,λv z=>by rw [d] at z;cases z⟩
 keep:=λi h h' st k=>st.at λo e=>k it (List.mem_singleton.mpr rfl) o e
 item:=by
   intro X hP hw hK hc i pins s σ H E I hf st hg
   subst hP hw hK
   obtain ⟨hi,xs,hq,hn⟩:=hg
   obtain ⟨its,rv,p,hz⟩:=I.list hq
   have hlt:n - 1 - i < xs.length:=by omega
   obtain ⟨u,hu,ru⟩:=rv.get (List.getElem?_eq_getElem hlt)
   obtain ⟨f0,f1,f2,f3,f4,f5⟩:=hf it (List.mem_singleton.mpr rfl)
   have ei:(n:Int) - 1 - i=((n - 1 - i:Nat):Int):=by omega
   rw [ei] at st
   refine wpAny_pyNext_rev_item st p.isList (x:=u) (by simpa using hu) λh' st' sb=>?_
   have I1:Inv X pins σ H { s with heap:=h' }:=I.turned (t':=s.toks) (λb o hb e=>(sb.2 b hb).trans e) f0 f1 f3 f4 f5
   have ej:((n - 1 - i:Nat):Int) - 1=(n:Int) - 1 - ((i+1:Nat):Int):=by omega
   rw [ej] at st'
   obtain ⟨o,e,c,d⟩:=id st'
   exact ⟨u,rfl,go_of (s:={ s with heap:=h' }) e c d (by decide) ⟨_,H,I1,ru,⟨rfl,λys hy=>by rw [I.list_inj hy hq];exact List.getElem?_eq_getElem hlt⟩,st',λb hb=>(hf b hb).1⟩⟩
 done:=by
   intro X hP hw hK hc i pins s σ H E I hf st hg
   subst hP hw hK
   obtain ⟨f0,f1,f2,f3,f4,f5⟩:=hf it (List.mem_singleton.mpr rfl)
   have hg':i=n:=hg
   have ei:(n:Int) - 1 - i=-1:=by omega
   rw [ei] at st
   exact wpAny_pyNext_rev_end (I.ok.hd hc) st λh' eb=>⟨rfl,I.turned (t':=s.toks) (λb o hb e=>eb b o hb e) f0 f1 f3 f4 f5⟩
 self:=λ_ _ _ _ _ st h=>wpAny_pyIter_revIter st h
def iRev (K:PySem.W.Frag) (ta:TA):TI:=λσ H R=>ta σ H λvs H1=>∃ a xs,vs=[.ref a]/\SqL K H1 a xs/\R (Itv K a xs.length) H1
section
variable {X:Cx} {tg:Expr}
theorem pi_rev {l:Expr} {ta:TA} {p pos:Pos} (hg:Gl X "reversed") (hm:X.mg "reversed"=none) (ha:PA X [l] ta) (hs:starEach [l] X.env=[(false,eval l X.env)]:=by rfl):PI X tg (.Call (.Name "reversed" p) [l] [] pos) (iRev X.K ta):=by
 intro pins s σ H R I h
 refine Call_ (ld_blt I hg hm bt_reversed (PyProof.Rows.callWith_type1 (thn (ha pos pins s σ H _ I h) λus s1 ⟨vs,H1,I1,r1,a,xs,ev,hq,q⟩=>?_) hs rfl))
 subst ev
 obtain ⟨u,rfl,ru⟩:=vals1 r1
 cases ru
 obtain ⟨its,rv,pl,hz⟩:=I1.list hq
 have hlen:=rv.length
 refine call_reversed_list pl.isList ?_
 have sz:((its.toArray.size:Nat):Int) - 1=(xs.length:Int) - 1 - ((0:Nat):Int):=by simp;omega
 rw [sz]
 have st0:(s1.heap.push (revObj a ((xs.length:Int) - 1 - ((0:Nat):Int)))).IsRevIter s1.heap.objs.size a ((xs.length:Int) - 1 - ((0:Nat):Int)):=⟨_,Heap.get?_push_size _ rfl,rfl,rfl⟩
 refine wpAny_pyIter_revIter (s:={ s1 with heap:=s1.heap.push (revObj a ((xs.length:Int) - 1 - ((0:Nat):Int))) }) st0 ?_
 refine ⟨s1.heap.objs.size,[s1.heap.objs.size],_,_,H1,rfl,I1.kept (t':=s1.toks) λb o e=>Heap.get?_push_of_some _ e,turn_rev a _ xs.length,st0,λb hb=>?_,q⟩
 obtain rfl:b=s1.heap.objs.size:=List.mem_singleton.mp hb
 exact I1.fpOk (Nat.le_refl _) (I1.hok.fresh (Nat.le_refl _))
theorem for_rev {K:PySem.W.Frag} {a:Addr} {xs:List V} {g:TG} {tb:TS} {D:Ends} {σ:St} {H:Hp} (Pv:Nat->St->Hp->Prop) (h0:Pv 0 σ H) (hl:∀ i σ H,i <= xs.length->Pv i σ H->SqL K H a xs)
   (hs:∀ i x σ H,i < xs.length->xs[xs.length - 1 - i]?=some x->Pv i σ H->g x σ H λσ2 H2=>tb { D with nx:=Pv (i+1),ct:=Pv (i+1),bk:=D.nx } σ2 H2) (hd:∀ σ H,Pv xs.length σ H->D.nx σ H) :
   ∃ W:Nat->Nat->St->Hp->Prop,(∃ m,W 0 m σ H)/\∀ i m σ H,W i m σ H->((Itv K a xs.length).stop i H/\D.nx σ H)\/((Itv K a xs.length).go i H/\∃ N:St->Hp->Prop,(∀ σ' H',N σ' H'->∃ m',m' < m/\W (i+1) m' σ' H') /\
     ∀ x H',(Itv K a xs.length).yld i H x H'->g x σ H' λσ2 H2=>tb { D with nx:=N,ct:=N,bk:=D.nx } σ2 H2):=by
 refine ⟨λi m σ H=>Pv i σ H/\i <= xs.length/\m=xs.length - i,⟨_,h0,Nat.zero_le _,rfl⟩,?_⟩
 rintro i m σ H ⟨hp,hi,rfl⟩
 by_cases z:i=xs.length
 · subst z
   exact .inl ⟨rfl,hd σ H hp⟩
 · have hlt:i < xs.length:=by omega
   refine .inr ⟨⟨hlt,xs,hl i σ H hi hp,rfl⟩,Pv (i+1),λσ' H' q=>⟨xs.length - (i+1),by omega,q,hlt,rfl⟩,?_⟩
   rintro x H' ⟨rfl,hx⟩
   exact hs i x σ H' hlt (hx xs (hl i σ H' hi hp)) hp
end
def rNil (K:PySem.W.Frag) (neg:Bool):R2:=λx y H Q=>∃ a b xs,x=.ref a/\y=.ref b/\SqL K H a xs/\SqL K H b []/\Q (.bl (if neg then !xs.isEmpty else xs.isEmpty)) H
section
variable {X:Cx}
theorem op_neNil (hu:X.A.units+64 < cLine):OpR X (compareOp .NotEq) (rNil X.K true):=by
 intro pins s σ H x y v u Q I rx ry h
 obtain ⟨a,b,xs,rfl,rfl,h1,h2,q⟩:=h
 cases rx
 cases ry
 obtain ⟨its,r1,p1,_⟩:=I.list h1
 obtain ⟨it2,r2,p2,_⟩:=I.list h2
 have e2:it2=[]:=Vals.zero r2
 subst e2
 have hl:=r1.length
 cases xs with
 | nil =>
   have e1:its=[]:=Vals.zero r1
   subst e1
   exact SeqAt.RcNeAt.lists (e:=λ_=>true) p1.isList p2.isList rfl (by omega) (λj h1 _=>absurd h1 (Nat.not_lt_zero _)) X.prog X.w X.xe _ ⟨.bl false,H,I,rfl,q⟩
 | cons z zs =>
   have hne:(its.toArray.size != ([]:List Value).toArray.size)=true:=by
     rw [List.length_cons] at hl
     rw [bne_iff_ne,List.size_toArray,List.size_toArray,List.length_nil]
     omega
   exact SeqAt.RcNeAt.lists_lengths p1.isList p2.isList hne (by omega) X.prog X.w X.xe _ ⟨.bl true,H,I,rfl,q⟩
end
def Itm (w:World) (a:Addr) (es:List DictEntry) (ep:Nat) (kvs:List (PyData × V)):It :=
 ⟨λi H=>H a=some (DObj a es ep)/\Paired (KEnt w H) kvs es/\i < kvs.length,λi H x H'=>H'=H/\∃ k v,kvs[i]?=some (k,v)/\KeyV H k x,λi H=>H a=some (DObj a es ep)/\kvs.length=es.length/\kvs.length <= i⟩
def TopK (kvs:List (PyData × V)):Prop:=∀ p∈kvs,(∃ t,p.1=.str t)\/∃ ds,p.1=.tuple ds
def iKeys (w:World) (tl:TE):TI:=λσ H R=>tl σ H λx H1=>∃ a es ep kvs,x=.ref a/\H1 a=some (DObj a es ep)/\Paired (KEnt w H1) kvs es/\TopK kvs/\R (Itm w a es ep kvs) H1
end L2

namespace L2
open PySem PySem.Spec PyProof.Rows
theorem nhr:¬ (("held":Str)="rows"):=by decide +kernel
def stF (hd rl:Addr):List (Str × V):=putF "rows" (.ref rl) (putF "held" (.ref hd) [])
theorem stF_held {hd rl:Addr}:(stF hd rl).lookup ("held":Str)=some (.ref hd):=by
 unfold stF
 rw [lookup_putF,if_neg nhr,lookup_putF,if_pos rfl]
theorem stF_rows {hd rl:Addr}:(stF hd rl).lookup ("rows":Str)=some (.ref rl):=by
 unfold stF
 rw [lookup_putF,if_pos rfl]
theorem stF_no {hd rl:Addr} {m:Str} (h1:¬ m="rows") (h2:¬ m="held"):(stF hd rl).lookup m=none:=by
 unfold stF
 rw [lookup_putF,if_neg h1,lookup_putF,if_neg h2]
 all_goals rfl
def sdI:Bool->Int
 | false=>0
 | true=>1
theorem sdI_at {l:Bool->Addr} (b:Bool):atI [V.ref (l false),V.ref (l true)] (sdI b)=some (.ref (l b)):=by
 cases b<;>rfl
theorem KeyV.keep {H H':Hp} {k:PyData} {y:V} (h:KeyV H k y) (ht:∀ b vs,H b=some (.tup vs)->H' b=some (.tup vs)):KeyV H' k y :=
 ⟨h.1,h.2.1,DV.keep ht _ _ h.1 h.2.2.1,h.2.2.2⟩
def Wt (H:Hp) (p:PyData × V) (tv:V):Prop:=∃ t cv,tv=.ref t/\H t=some (.tup [cv,p.2])/\KeyV H p.1 cv
theorem Wt.keep {H H':Hp} {p:PyData × V} {tv:V} (h:Wt H p tv) (ht:∀ b vs,H b=some (.tup vs)->H' b=some (.tup vs)):Wt H' p tv:=by
 obtain ⟨t,cv,e,h1,h2⟩:=h
 exact ⟨t,cv,e,ht _ _ h1,h2.keep ht⟩
def RowAt (H:Hp) (l:Addr) (es:List (PyData × V)):Prop:=∃ ts:List V,H l=some (.lst ts)/\Paired (Wt H) es ts
theorem RowAt.keep {H H':Hp} {l:Addr} {es:List (PyData × V)} (h:RowAt H l es) (hl:∀ o,H l=some o->H' l=some o) (ht:∀ b vs,H b=some (.tup vs)->H' b=some (.tup vs)):RowAt H' l es:=by
 obtain ⟨ts,h1,h2⟩:=h
 exact ⟨ts,hl _ h1,Paired.mapP h2 λ_ _ q=>q.keep ht⟩
theorem pairedLen {α β:Type} {F:α->β->Prop}:∀ {xs:List α} {ys:List β},Paired F xs ys->xs.length=ys.length
 | _,_,.nil=>rfl
 | _,_,.cons _ t=>by rw [List.length_cons,List.length_cons,pairedLen t]
def setR {α:Type} (r:Bool->α) (b:Bool) (v:α):Bool->α:=λc=>if c=b then v else r c
theorem setR_same {α:Type} {r:Bool->α} {b:Bool} {v:α}:setR r b v b=v:=if_pos rfl
theorem setR_ne {α:Type} {r:Bool->α} {b c:Bool} {v:α} (h:c≠b):setR r b v c=r c:=if_neg h
structure Sto (w:World) (C:Addr) (H:Hp) (x hd rl:Addr) (l:Bool->Addr) (M:List (PyData × V)) (r:Bool->List (PyData × V)):Prop where
 ob:∃ dx,H x=some (.ins C dx (stF hd rl))
 me:MD w H hd M
 ro:H rl=some (.lst [.ref (l false),.ref (l true)])
 rw:∀ b,RowAt H (l b) (r b)
 nl:l false≠l true
 nr:∀ b,l b≠rl
def Kp (xs:List Addr) (H H':Hp):Prop:=∀ c o,c ∉ xs->H c=some o->H' c=some o
theorem Kp.refl (xs:List Addr) (H:Hp):Kp xs H H:=λ_ _ _ e=>e
theorem Kp.trans {xs:List Addr} {H H1 H2:Hp} (a:Kp xs H H1) (b:Kp xs H1 H2):Kp xs H H2:=λc o n e=>b c o n (a c o n e)
theorem Kp.mono {xs ys:List Addr} {H H':Hp} (a:Kp xs H H') (h:∀ c,c∈xs->c∈ys):Kp ys H H':=λc o n e=>a c o (λz=>n (h c z)) e
theorem Kp.same {H H':Hp} (a:Same H H') (xs:List Addr):Kp xs H H':=λc o _ e=>a c o e
section
variable {w:World} {C:Addr} {H H':Hp} {x hd rl:Addr} {l:Bool->Addr} {M:List (PyData × V)} {r:Bool->List (PyData × V)}
theorem MD.there (m:MD w H hd M):∃ ee:List DictEntry × Nat,H hd=some (DObj hd ee.1 ee.2):=let ⟨es,ep,h,_⟩:=m;⟨(es,ep),h⟩
theorem MD.keepS (m:MD w H hd M) (ha:∀ o,H hd=some o->H' hd=some o) (ht:∀ b vs,H b=some (.tup vs)->H' b=some (.tup vs)):MD w H' hd M:=by
 obtain ⟨es,ep,h1,h2⟩:=id m
 exact m.keep ((ha _ h1).trans h1.symm) ht
theorem Sto.keep (S:Sto w C H x hd rl l M r) (h:∀ c o,(c=x\/c=hd\/c=rl\/∃ b,c=l b)->H c=some o->H' c=some o) (ht:∀ b vs,H b=some (.tup vs)->H' b=some (.tup vs)):Sto w C H' x hd rl l M r:=by
 obtain ⟨dx,e⟩:=S.ob
 exact ⟨⟨dx,h _ _ (.inl rfl) e⟩,S.me.keepS (λo=>h _ o (.inr (.inl rfl))) ht,h _ _ (.inr (.inr (.inl rfl))) S.ro,λb=>(S.rw b).keep (λo=>h _ o (.inr (.inr (.inr ⟨b,rfl⟩)))) ht,S.nl,S.nr⟩
theorem Sto.same (S:Sto w C H x hd rl l M r) (h:Same H H'):Sto w C H' x hd rl l M r:=S.keep (λc o _ e=>h c o e) λb vs e=>h b _ e
theorem Sto.len (S:Sto w C H x hd rl l M r):M.length <= sizeLine:=let ⟨_,_,_,_,_,h⟩:=S.me;h
def Sto.own (x hd rl:Addr) (l:Bool->Addr) (c:Addr):Prop:=c=x\/c=hd\/c=rl\/c=l false\/c=l true
theorem Sto.there (S:Sto w C H x hd rl l M r) {c:Addr} (h:Sto.own x hd rl l c):∃ o,H c=some o/\(∀ xs,o≠.tup xs):=by
 rcases h with rfl | rfl | rfl | rfl | rfl
 · obtain ⟨dx,e⟩:=S.ob;exact ⟨_,e,λ_ z=>by cases z⟩
 · obtain ⟨es,e⟩:=S.me.there;exact ⟨_,e,λ_ z=>by cases z⟩
 · exact ⟨_,S.ro,λ_ z=>by cases z⟩
 · obtain ⟨ts,e,_⟩:=S.rw false;exact ⟨_,e,λ_ z=>by cases z⟩
 · obtain ⟨ts,e,_⟩:=S.rw true;exact ⟨_,e,λ_ z=>by cases z⟩
theorem Sto.fresh (S:Sto w C H x hd rl l M r) {p:Addr} (hp:H p=none):¬ Sto.own x hd rl l p:=λh=>by
 obtain ⟨o,e,_⟩:=S.there h
 rw [e] at hp;cases hp
end
def drainAll (M:List (PyData × V)) (es:List (PyData × V)):List (PyData × V):=es.foldl (λM p=>putD M p.1 p.2) M
def readV (M es:List (PyData × V)) (k:PyData):V:=match es.reverse.find? (λp=>PyData.eqv p.1 k) with
 | some p=>p.2
 | none=>(lookD M k).getD (.int 0)
def lastW (es:List (PyData × V)) (k:PyData):Option V:=(es.reverse.find? λp=>PyData.eqv p.1 k).map (·.2)
theorem readV_eq (M es:List (PyData × V)) (k:PyData):readV M es k=((lastW es k).or (lookD M k)).getD (.int 0):=by
 unfold readV lastW
 cases es.reverse.find? (λp=>PyData.eqv p.1 k)<;>rfl
theorem look_map {k k':PyData} (h:MX.kd k=true) (h':MX.kd k'=true) (v:V):∀ {M:List (PyData × V)},KK M->lookD (M.map λp=>if PyData.eqv p.1 k'=true then (p.1,v) else p) k=(lookD M k).map λx=>if PyData.eqv k' k=true then v else x
 | [],_=>rfl
 | p :: r,kk=>by
   have ih:=look_map h h' v (M:=r) λq hq=>kk q (List.mem_cons_of_mem _ hq)
   have kp:=kk p List.mem_cons_self
   unfold lookD at ih ⊢
   rw [List.map_cons,List.find?_cons,List.find?_cons]
   have e1:(if PyData.eqv p.1 k'=true then (p.1,v) else p).1=p.1:=by split<;>rfl
   rw [e1]
   cases z:PyData.eqv p.1 k with
   | false=>exact ih
   | true =>
     have pk:=(MX.eqv_iff _ _ kp h).mp z
     show some (if PyData.eqv p.1 k'=true then (p.1,v) else p).2=some (if PyData.eqv k' k=true then v else p.2)
     by_cases y:k'=k
     · subst y
       rw [eqv_self h',z];rfl
     · rw [eqv_false h' h y,pk,eqv_false h h' λq=>y q.symm];rfl
theorem look_put {M:List (PyData × V)} {k k':PyData} (kk:KK M) (h':MX.kd k'=true) (h:MX.kd k=true) (v:V):lookD (putD M k' v) k=if PyData.eqv k' k=true then some v else lookD M k:=by
 by_cases n:k'∈M.map (·.1)
 · obtain ⟨p,hp,e⟩:=List.mem_map.mp n
   have ha:(M.any λp=>PyData.eqv p.1 k')=true:=List.any_eq_true.mpr ⟨p,hp,by rw [e];exact eqv_self h'⟩
   unfold putD
   rw [if_pos ha,look_map h h' v kk]
   by_cases y:k'=k
   · subst y
     rw [eqv_self h']
     have:(lookD M k').isSome=true:=by
       unfold lookD
       rw [Option.isSome_map,List.find?_isSome]
       exact ⟨p,hp,by rw [e];exact eqv_self h'⟩
     cases z:lookD M k' with
     | none=>rw [z] at this;cases this
     | some x=>rfl
   · rw [eqv_false h' h y]
     cases lookD M k<;>rfl
 · rw [putD_no h' kk n]
   unfold lookD
   rw [List.find?_append,List.find?_cons]
   by_cases y:k'=k
   · subst y
     have z:=lookD_no h' kk n
     unfold lookD at z
     rw [Option.map_eq_none_iff] at z
     rw [z,eqv_self h'];rfl
   · rw [eqv_false h' h y]
     cases M.find? (λp=>PyData.eqv p.1 k)<;>rfl
theorem KK.put {M:List (PyData × V)} {k:PyData} (kk:KK M) (h:MX.kd k=true) (v:V):KK (putD M k v):=by
 unfold putD
 split
 · intro p hp
   obtain ⟨q,hq,rfl⟩:=List.mem_map.mp hp
   have:=kk q hq
   split<;>exact this
 · intro p hp
   rcases List.mem_append.mp hp with z | z
   · exact kk p z
   · rw [List.mem_singleton.mp z];exact h
theorem KK.nil:KK ([]:List (PyData × V)):=λ_ h=>by cases h
mutual
theorem keyBack {H:Hp} {D:Addr} {o:HO} (hD:H D=none) (ho:∀ xs,o≠.tup xs):∀ {k:PyData} {y:V},MX.kd k=true->DV (upd H D o) k y->DV H k y
 | .int _,_,_,e=>e
 | .str _,_,_,e=>e
 | .tuple ds,_,h,⟨a,vs,e,ha,hv⟩=>by
   have ne:a≠D:=λz=>by
     rw [z,upd_same] at ha
     exact ho vs (Option.some.inj ha)
   exact ⟨a,vs,e,by rw [upd_ne ne] at ha;exact ha,keysBack hD ho h hv⟩
 | .none,_,h,_=>by cases h
 | .bool _,_,h,_=>by cases h
 | .list _,_,h,_=>by cases h
 | .dict _,_,h,_=>by cases h
theorem keysBack {H:Hp} {D:Addr} {o:HO} (hD:H D=none) (ho:∀ xs,o≠.tup xs):∀ {ds:List PyData} {vs:List V},MX.kds ds=true->DVs (upd H D o) ds vs->DVs H ds vs
 | [],_,_,e=>e
 | d :: ds,_,h,⟨v,r,e,h1,h2⟩=>by
   have h':(MX.kd d && MX.kds ds)=true:=h
   rw [Bool.and_eq_true] at h'
   exact ⟨v,r,e,keyBack hD ho h'.1 h1,keysBack hD ho h'.2 h2⟩
end
end L2

namespace L2
open PySem PySem.Spec PyProof.Rows
theorem mem_of_lookup {β:Type} {y:Str} {c:β}:∀ {l:List (Str × β)},l.lookup y=some c->(y,c)∈l
 | [],h=>by cases h
 | (k,v) :: r,h=>by
   rw [List.lookup_cons] at h
   cases e:y == k with
   | true =>
     rw [e] at h
     cases h
     rw [beq_iff_eq.mp e]
     exact List.mem_cons_self
   | false =>
     rw [e] at h
     exact List.mem_cons_of_mem _ (mem_of_lookup h)
def cxComp (X:Cx) (scope:Scope) (cl:List (Str × Addr)) (C:Addr) (x:Str) (N':List Str) (s₃:Shared) (H₃:Hp) (pins:List (Addr × Obj)) (ex:List Addr) (E':Value->Shared->Prop):Cx :=
 { X with N:=N',s₀:=s₃,H₀:=H₃,env:=compEnvC scope cl C X.env,outer:=X.stack,stack:=X.stack,ex:=ex,fn:=λy=>y == x,pn:=X.pn++pins,xe:=E' }
structure CompOk (X:Cx) (scope:Scope) (cl:List (Str × Addr)) (x:Str):Prop where
 kind:scope.kind=.function
 clos:closureFor scope X.env=pure cl
 nocell:∀ y∈scope.names,y.2≠.cell
 names:∀ y∈scope.names,y.2=.local->scope.names.lookup y.1=some .local
 xloc:scope.names.lookup x=some .local
 sub:∀ p∈cl,X.env.cells.lookup p.1=some p.2
 has:∀ p∈scope.names,p.2=.free->∃ c,cl.lookup p.1=some c
 nox:cl.lookup x=none
def PTs (X:Cx) (ifs:List Expr) (t:TT):Prop :=
 ∀ (pins:List (Addr × Obj)) (s:Shared) (σ:St) (H:Hp) (Q:Bool->Hp->Prop),Inv X pins σ H s->t σ H Q ->
   wpAny (model X.prog X.w) X.A (forIn ifs true λc r=>if r=true then do let ok ← isTrue c X.env (eval c X.env);pure (ForInStep.yield ok) else pure (ForInStep.yield r)) (TP X pins σ Q) X.xe s
theorem pts_none {X:Cx}:PTs X [] (λ_ H Q=>Q true H):=λpins s σ H Q I h=>by
 rw [List.forIn_nil]
 exact wpAny_pure ⟨H,I,h⟩
def capt (σ:St) (js:List Nat):St:=js.map λj=>(σ[j]?).getD none
def tComp (wi:TI) (js:List Nat) (tc:TT) (te:TE):TE:=λσ H Q=>wi σ H λJ H1=>∀ D,H1 D=none->∃ W:Nat->Nat->List V->Hp->Prop,(∃ m,W 0 m [] (upd H1 D (.lst []))) /\
 ∀ i m ys H2,W i m ys H2->H2 D=some (.lst ys)/\ys.length < sizeLine/\((J.stop i H2/\Q (.ref D) H2)\/(J.go i H2/\∀ x H3,J.yld i H2 x H3 ->
   tc (some x :: capt σ js) H3 λb H4=>if b=true then te (some x :: capt σ js) H4 λy H5=>H5 D=some (.lst ys)/\∃ m',m' < m/\W (i+1) m' (ys++[y]) (upd H5 D (.lst (ys++[y])))
     else ∃ m',m' < m/\W (i+1) m' ys H4))
section
variable {X:Cx} {scope:Scope} {cl:List (Str × Addr)} {x:Str} {N':List Str}
theorem relabel_mem {names:List (Str × NameKind)} {env:Env} {y:Str} {k:NameKind} (h:(names.map λ(n,k)=>if (k == NameKind.free && env.scope.kind == .function && env.kindOf n == some .cell) then (n,NameKind.cell) else (n,k)).lookup y=some k) (hk:k=.cell\/k=.free) (hn:∀ p∈names,p.2≠.cell):∃ p∈names,p.1=y/\p.2=.free:=by
 obtain ⟨⟨n,k0⟩,hp,e⟩:=List.mem_map.mp (mem_of_lookup h)
 dsimp only at e
 split at e
 · rename_i hc
   injection e with e1 e2
   refine ⟨_,hp,e1,?_⟩
   rw [Bool.and_eq_true,Bool.and_eq_true] at hc
   exact beq_iff_eq.mp hc.1.1
 · injection e with e1 e2
   refine ⟨_,hp,e1,?_⟩
   rcases hk with rfl | rfl
   · exact absurd e2 (hn _ hp)
   · exact e2
end
def SubCl (env:Env):List (Str × Addr)->Prop
 | []=>True
 | p :: r=>env.cells.lookup p.1=some p.2/\SubCl env r
theorem SubCl.all {env:Env}:∀ {cl:List (Str × Addr)},SubCl env cl->∀ p∈cl,env.cells.lookup p.1=some p.2
 | [],_,p,h=>by cases h
 | q :: r,⟨a,b⟩,p,h=>by
   rcases List.mem_cons.mp h with rfl | h
   · exact a
   · exact SubCl.all b p h
theorem compOk {X:Cx} {scope:Scope} {cl:List (Str × Addr)} {x:Str} (kind:scope.kind=.function) (clos:closureFor scope X.env=pure cl) (nocell:∀ y∈scope.names,y.2≠.cell) (names:∀ y∈scope.names,y.2=.local->scope.names.lookup y.1=some .local)
   (xloc:scope.names.lookup x=some .local) (sub:SubCl X.env cl) (has:(scope.names.all λp=>p.2 != .free || (cl.lookup p.1).isSome)=true) (nox:cl.lookup x=none):CompOk X scope cl x :=
 ⟨kind,clos,nocell,names,xloc,sub.all,λp hp hf=>by
   have h:=List.all_eq_true.mp has p hp
   rw [hf] at h
   have h':(cl.lookup p.1).isSome=true:=by simpa using h
   exact Option.isSome_iff_exists.mp h',nox⟩
end L2

namespace L2
open PySem PySem.Spec PyProof.Rows
def rInD (neg:Bool):R2:=λx y H Q=>∃ d ds,DV H d x/\DV H (.list ds) y/\LayD d/\LayD (.list ds)/\Q (.bl (if neg then !ds.any (λz=>PyData.eqv z d) else ds.any λz=>PyData.eqv z d)) H
section
variable {X:Cx}
end
end L2

namespace L2
open PySem PySem.Spec PyProof.Rows
def tCut (t u:TS):TS:=λD σ H=>∃ B:St->Hp->Prop,t { D with nx:=B } σ H/\∀ σ' H',B σ' H'->u D σ' H'
theorem pss_cut {X:Cx} {st:Stmt} {rest:List Stmt} {t u:TS} (h1:PS X st t) (h2:PSs X rest u):PSs X (st :: rest) (tCut t u):=by
 intro pins s σ H D I h
 obtain ⟨B,h,k⟩:=h
 refine wpAny_execs_cons (thn (h1 pins s σ H { D with nx:=B } I h) λf s1 q=>?_)
 cases f with
 | next =>
   obtain ⟨σ',H',I',q⟩:=q
   exact h2 pins s1 σ' H' D I' (k σ' H' q)
 | ret v=>exact q
 | brk=>exact q
 | cont=>exact q
def tCutT (t:TT):TT:=λσ H Q=>∃ B:Bool->Hp->Prop,t σ H B/\∀ b H',B b H'->Q b H'
end L2
namespace L2
open PySem PySem.Spec PyProof.Rows
mutual
theorem eqv_refl:∀ d:PyData,d.canLay0=true->PyData.eqv d d=true
 | .none,_=>rfl
 | .bool b,_=>by simp [PyData.eqv]
 | .int i,_=>by simp [PyData.eqv]
 | .str t,_=>by simp [PyData.eqv]
 | .list xs,h=>by
   have h':PyData.canLayAll0 xs=true:=by simpa [PyData.canLay0] using h
   simpa [PyData.eqv] using eqvAll_refl xs h'
 | .tuple xs,h=>by
   have h':PyData.canLayAll0 xs=true:=by simpa [PyData.canLay0] using h
   simpa [PyData.eqv] using eqvAll_refl xs h'
 | .dict _,h=>by simp [PyData.canLay0] at h
theorem eqvAll_refl:∀ xs:List PyData,PyData.canLayAll0 xs=true->PyData.eqvAll xs xs=true
 | [],_=>rfl
 | x :: xs,h=>by
   have h':x.canLay0=true/\PyData.canLayAll0 xs=true:=by simpa [PyData.canLayAll0] using h
   simp [PyData.eqvAll,eqv_refl x h'.1,eqvAll_refl xs h'.2]
end
def rNeK2:R2:=λx y H Q=>∃ a b k1 k2 v1 v2 u1 u2 d1 d2 e1 e2,x=.ref a/\y=.ref b/\H a=some (.dK [(k1,v1),(k2,v2)])/\H b=some (.dK [(k1,u1),(k2,u2)])/\¬ k1=k2/\(DV H d1 v1/\DV H d2 v2/\DV H e1 u1/\DV H e2 u2)/\(LayD d1/\LayD d2/\LayD e1/\LayD e2) /\
 Q (.bl (!(PyData.eqv d1 e1 && PyData.eqv d2 e2))) H
end L2

namespace L2
open PySem PySem.Spec PyProof.Rows
def gLst (K:PySem.W.Frag) (n:Nat) (t:TGs):TG:=λv σ H Q=>∃ a xs,v=.ref a/\SqL K H a xs/\xs.length=n/\t xs σ H Q
section
variable {X:Cx} {pos:Pos}
def rIxA (K:PySem.W.Frag):R2:=λx y H Q=>rIxL K x y H Q\/rIxT K x y H Q
theorem ix_any:IxR X (rIxA X.K):=IxR.or ix_list ix_tup
def clsV:V->Value
 | .ty c=>.type c
 | .ref a=>.ref a
 | _=>.none
def isClsV:V->Bool
 | .ty _=>true
 | .ref _=>true
 | _=>false
end
def Its (lo st:Int) (n:Nat):It:=⟨λi _=>i < n,λi H x H'=>H'=H/\x=.int (lo+i * st),λi _=>n <= i⟩
def iRng3 (ta:TA):TI:=λσ H R=>ta σ H λvs H1=>∃ i j c:Int,vs=[.int i,.int j,.int c]/\(-(2 ^ 40) <= i/\i < 2 ^ 40/\-(2 ^ 40) <= j/\j < 2 ^ 40/\0 < c/\c < 2 ^ 29)/\∀ n,R (Its i c n) H1
theorem call_len_b {X:Cx}:CallR X (.builtin "len") (λxs H Q=>∃ p ys,xs=[.ref p]/\(SqL X.K H p ys\/SqT X.K H p ys)/\(ys.length <= sizeLine->Q (.int ys.length) H)):=by
 intro pins s σ H xs us Q I r h
 obtain ⟨p,ys,e,hq,q⟩:=h
 have hb:ys.length <= sizeLine:=by
   rcases hq with z | z
   · obtain ⟨its,r',_,hz⟩:=I.list z
     have:=r'.length
     omega
   · obtain ⟨its,r',_,hz⟩:=I.tuple z
     have:=r'.length
     omega
 exact call_len_seq pins s σ H xs us Q I r ⟨p,ys,e,hq,q hb⟩
theorem ix_any_of {K:PySem.W.Frag} {H:Hp} {p:Addr} {xs:List V} {i:Int} {v:V} {Q:VK} (h:SqL K H p xs\/SqT K H p xs) (e:atI xs i=some v) (q:Q v H):rIxA K (.ref p) (.int i) H Q:=by
 rcases h with h | h
 · exact .inl ⟨p,xs,i,v,rfl,rfl,h,e,q⟩
 · exact .inr ⟨p,xs,i,v,rfl,rfl,h,e,q⟩
theorem Same.seqT {K:PySem.W.Frag} {H H':Hp} {a:Addr} {xs:List V} (e:Same H H') (h:SqT K H a xs):SqT K H' a xs:=by
 rcases h with z | z
 · rcases z with z | ⟨o,z⟩
   · exact .inl (.inl (e _ _ z))
   · exact .inl (.inr ⟨o,e _ _ z⟩)
 · exact .inr z
end L2

namespace L2
open PySem PySem.Spec PyProof.Rows
theorem ObjOk.here {P:Program} {w:World} {H:Hp} {h:Heap} {a:Addr} {o:HO} (x:ObjOk P w H h a o):∃ ob,h.get? a=some ob:=by
 cases o with
 | lst xs=>obtain ⟨_,_,_,_,e⟩:=x;exact ⟨_,e⟩
 | tup xs=>obtain ⟨_,_,_,_,e,_⟩:=x;exact ⟨_,e⟩
 | dK kvs=>obtain ⟨_,_,_,_,o,_,_,e,_⟩:=x;exact ⟨_,e⟩
 | dT kvs=>obtain ⟨_,_,_,_,o,_,_,e,_⟩:=x;exact ⟨_,e⟩
 | set S n=>obtain ⟨o,_,_,_,e,_⟩:=x;exact ⟨_,e⟩
 | ins C dx fs=>obtain ⟨_,_,_,e,_⟩:=x;exact ⟨_,e⟩
 | own y=>exact x
 | xd fs=>obtain ⟨_,⟨_,_,_,e,_⟩,_⟩:=x;exact ⟨_,e⟩
 | rng lo hi=>obtain ⟨_,_,_,e⟩:=x;exact ⟨_,e⟩
 | frz ob u=>exact ⟨_,x.1⟩
 | tbl ps=>exact ⟨_,show h.get? a=some _ from x⟩
 | met f y=>exact ⟨_,show h.get? a=some _ from x⟩
 | ext φ=>exact x.2.1
theorem HOk.nothing {P:Program} {w:World} {H:Hp} {h:Heap} {a:Addr} (ok:HOk P w H h) (e:h.get? a=none):H a=none:=by
 cases q:H a with
 | none=>rfl
 | some o =>
   obtain ⟨ob,e'⟩:=(ok a o q).here
   rw [e'] at e;cases e
def Trc (h:Heap) (e T:Addr) (cls fl:Value):Prop :=
 ∃ oe vs oT ts a0,h.get? e=some oe/\(oe.cls=cls/\vs[0]?=some a0)/\oe.data=.fields vs/\vs[1]?=some (.ref T)/\T≠e/\h.get? T=some oT/\oT.data=.fields ts/\ts[3]?=some fl
theorem Trc.on {h B:Heap} {e T:Addr} {cls fl:Value} (x:Trc h e T cls fl) (hB:B.get? T=none):∃ a0,h.TracedAtW B e cls a0 fl:=by
 obtain ⟨oe,vs,oT,ts,a0,h1,h2,h3,h4,h5,h6,h7,h8⟩:=x
 exact ⟨a0,oe,vs,T,oT,ts,h1,h2,h3,h4,hB,h5,h6,h7,h8⟩
def Apt (X:Cx) (pins:List (Addr × Obj)) (H:Hp) (b:Addr):Prop :=
 X.s₀.heap.get? b=none/\H b=none/\b≠X.env.locals/\(∀ x c,X.env.cells.lookup x=some c->c≠b)/\∀ p∈X.pn++pins,p.1≠b
section
variable {X:Cx} {pins:List (Addr × Obj)} {σ:St} {H H':Hp} {s:Shared} {h':Heap}
theorem Inv.apt (I:Inv X pins σ H s) (hx:X.ex=[]) {b:Addr} (e:s.heap.get? b=none) (n:H' b=none):Apt X pins H' b:=by
 refine ⟨?_,n,?_,λx c hc z=>?_,λp hp z=>?_⟩
 · cases q:X.s₀.heap.get? b with
   | none=>rfl
   | some o =>
     obtain ⟨o',e'⟩:=I.base.there b o q (by rw [hx];simp)
     rw [e] at e';cases e'
 · rintro rfl
   obtain ⟨m,⟨o,_,_,ho,_⟩,_⟩:=I.loc
   rw [e] at ho;cases ho
 · obtain ⟨v,o,ho,_⟩:=I.cell x c hc
   rw [z,e] at ho;cases ho
 · have ho:=(I.pin p hp).1
   rw [z,e] at ho;cases ho
theorem Inv.fsIn (I:Inv X pins σ H s):∀ b∈X.fs,b∈frs X.stack:=λb hb=>by
 rcases I.ok.stk with e | ⟨e,f⟩
 · rw [e];exact hb
 · rw [e]
   show b∈List.filterMap (·.frame) (X.env :: X.outer)
   rw [List.filterMap_cons,f]
   exact List.mem_cons_of_mem _ hb
theorem Inv.moved (I:Inv X pins σ H s) (ch:List Addr) (hch:∀ b∈ch,Apt X pins H b) (keep:∀ b o,b ∉ ch->b ∉ frs X.stack->s.heap.get? b=some o->h'.get? b=some o)
   (slot:∀ b o,b∈frs X.stack->s.heap.get? b=some o->∃ sl,h'.get? b=some { o with slots:=sl }):Inv X pins σ H { s with heap:=h' }:=by
 have up:∀ b o,b ∉ ch->s.heap.get? b=some o->∃ sl,h'.get? b=some { o with slots:=sl }:=λb o n e=>by
   by_cases z:b∈frs X.stack
   · exact slot b o z e
   · exact ⟨o.slots,keep b o n z e⟩
 have neL:∀ b o,X.s₀.heap.get? b=some o->b≠X.env.locals:=λb o e=>Nat.ne_of_lt (Nat.lt_of_lt_of_le (Heap.lt_size e) I.ok.above)
 have neC:∀ b o,X.s₀.heap.get? b=some o->b ∉ ch:=λb o e z=>by
   rw [(hch b z).1] at e;cases e
 have nst:∀ b,b≠X.env.locals->b ∉ X.fs->b ∉ frs X.stack:=λb n1 n2 z=>(List.mem_cons.mp (I.stkSub b z)).elim n1 n2
 have cellU:∀ x c,X.env.cells.lookup x=some c->∀ v,s.heap.IsCell c v->h'.IsCell c v:=λx c hc v ⟨o,ho,hd⟩=>by
   obtain ⟨sl,q⟩:=up c o (λz=>(hch c z).2.2.2.1 x c hc rfl) ho
   exact ⟨_,q,hd⟩
 refine ⟨I.ok,I.os,I.bare,⟨λb o e n hb hx=>?_,λb o e n hb hx=>?_,I.base.free,λb o e hx=>?_,I.base.tups,I.base.frzs,I.base.tbls⟩,?_,λx c e=>?_,I.free,I.freeC,λp hp=>?_,λa o e=>?_,I.len⟩
 · exact keep b o (neC b o e) (nst b (neL b o e) hb) (I.base.keep b o e n hb hx)
 · obtain ⟨sl,e1⟩:=I.base.slot b o e n hb hx
   obtain ⟨sl',e2⟩:=slot b _ (I.fsIn b hb) e1
   exact ⟨sl',e2⟩
 · obtain ⟨o',e1⟩:=I.base.there b o e hx
   obtain ⟨sl,e2⟩:=up b o' (neC b o e) e1
   exact ⟨_,e2⟩
 · obtain ⟨m,⟨o,es,ep,ho,r⟩,hl⟩:=I.loc
   obtain ⟨sl,q⟩:=up _ o (λz=>(hch _ z).2.2.1 rfl) ho
   refine ⟨m,⟨_,es,ep,q,r⟩,λi x v e1 e2 e3=>?_⟩
   obtain ⟨u,r',l⟩:=hl i x v e1 e2 e3
   refine ⟨u,r',?_⟩
   rcases l with l | ⟨k,c,e,z⟩
   · exact .inl l
   · exact .inr ⟨k,c,e,cellU x c e _ z⟩
 · obtain ⟨v,z⟩:=I.cell x c e
   exact ⟨v,cellU x c e v z⟩
 · obtain ⟨e,n,ne,nf,d⟩:=I.pin p hp
   exact ⟨keep p.1 p.2 (λz=>(hch p.1 z).2.2.2.2 p hp rfl) (nst p.1 ne nf) e,n,ne,nf,d⟩
 · refine (I.hok a o e).stay (λb u hb q=>keep b u (λz=>?_) (λz=>?_) q) (λ_ q=>q) λ_ _ q=>q
   · have n:=(hch b z).2.1
     rcases hb with rfl | hb
     · rw [n] at e;cases e
     · rw [n] at hb;cases hb
   · have n:=I.stkFree b z
     rcases hb with rfl | hb
     · rw [n] at e;cases e
     · rw [n] at hb;cases hb
abbrev hid (X:Cx) (h:Heap) (e T:Addr):Heap:=PySem.W.hideAll h (e :: T :: frs X.stack)
theorem hid_stays {h:Heap} {e T:Addr}:(hid X h e T).StaysIn h:=λ_ _ q=>PySem.W.of_hideAll _ q
theorem hid_frames {h:Heap} {e T:Addr} (F:h.FunFrames X.base X.stack):h.FunFrames (hid X h e T) X.stack :=
 PySem.W.funFrames_hide F λenv he a ha=>List.mem_cons_of_mem _ (List.mem_cons_of_mem _ (List.mem_filterMap.mpr ⟨env,he,ha⟩))
theorem hid_e {h:Heap} {e T:Addr}:(hid X h e T).get? e=none:=PySem.W.hideAll_none _ List.mem_cons_self
theorem hid_T {h:Heap} {e T:Addr}:(hid X h e T).get? T=none:=PySem.W.hideAll_none _ (List.mem_cons_of_mem _ List.mem_cons_self)
theorem Inv.flown (hx:X.ex=[]) (I:Inv X pins σ H s) {e T:Addr} {cls a0 fl:Value} (aE:Apt X pins H e) (aT:Apt X pins H T) (k1:(hid X s.heap e T).StaysIn h') (k2:h'.FunFrames (hid X s.heap e T) X.stack)
   (k3:h'.TracedAtW (hid X s.heap e T) e cls a0 fl) (k4:s.heap.UpToSlots h'):Inv X pins σ H { s with heap:=h' }/\∃ T',Trc h' e T' cls fl/\Apt X pins H T':=by
 refine ⟨I.moved [e,T] (λb hb=>?_) (λb o n1 n2 q=>?_) (λb o hb q=>?_),?_⟩
 · rcases List.mem_cons.mp hb with rfl | hb
   · exact aE
   · rw [List.mem_singleton.mp hb];exact aT
 · refine k1 b o (PySem.W.hideAll_get _ q λz=>?_)
   rcases List.mem_cons.mp z with z | z
   · exact n1 (by rw [z];exact List.mem_cons_self)
   · rcases List.mem_cons.mp z with z | z
     · exact n1 (by rw [z];simp)
     · exact n2 z
 · obtain ⟨_,o',e',hd⟩:=I.stack.mem hb
   rw [q] at e';cases e'
   exact k4 b o q hd
 · obtain ⟨oe,vs,T',oT,ts,h1,h2,h3,h4,h5,h6,h7,h8,h9⟩:=k3
   refine ⟨T',⟨oe,vs,oT,ts,a0,h1,h2,h3,h4,h6,h7,h8,h9⟩,?_⟩
   by_cases z:T'=T
   · rw [z];exact aT
   · have nf:T' ∉ frs X.stack:=λy=>by
       obtain ⟨_,o',e',hd⟩:=k2.mem y
       rw [h7] at e';cases e'
       exact hd _ h8
     have hn:s.heap.get? T'=none:=by
       cases q:s.heap.get? T' with
       | none=>rfl
       | some o =>
         have:=PySem.W.hideAll_get (e :: T :: frs X.stack) q λy=>by
           rcases List.mem_cons.mp y with y | y
           · exact h6 y
           · rcases List.mem_cons.mp y with y | y
             · exact z y
             · exact nf y
         rw [h5] at this;cases this
     exact I.apt hx hn (I.hok.nothing hn)
end
def CXv (P:Program) (w:World):CXT:=λouter H s E e s'=>∃ (ex T:Addr) (cls:Value) (H':Hp),e=.ref ex/\s'.os=s.os/\AllBare s'.gens/\Un (frs outer) [] H H' s.heap s'.heap/\HOk P w H' s'.heap/\Trc s'.heap ex T cls .none /\
 s.heap.get? ex=none/\s.heap.get? T=none/\H' ex=none/\H' T=none/\E cls none H'
structure Raisy (X:Cx) (E:XK):Prop where
 ex:X.ex=[]
 stk:X.stack=X.env :: X.outer
 frm:X.env.frame=some X.env.locals
 xe:X.xe=λe s'=>wpAny (model X.prog X.w) X.A («leaving» X.env e) (λ_ s''=>CXv X.prog X.w X.outer X.H₀ X.s₀ E e s'') (λe' s''=>CXv X.prog X.w X.outer X.H₀ X.s₀ E e' s'') s'
section
variable {X:Cx} {pins:List (Addr × Obj)} {σ:St} {H H':Hp} {s:Shared} {E:XK}
theorem Inv.out (hx:X.ex=[]) (I:Inv X pins σ H s) {e T:Addr} {cls:Value} (t:Trc s.heap e T cls .none) (aE:Apt X pins H e) (aT:Apt X pins H T) (q:E cls none H):CXv X.prog X.w X.outer X.H₀ X.s₀ E (.ref e) s:=by
 refine ⟨e,T,cls,H,rfl,I.os,I.bare,?_,I.hok,t,aE.1,aT.1,aE.2.1,aT.2.1,q⟩
 have u:=I.base
 rw [hx] at u
 exact u
theorem leave_made (R:Raisy X E) (I:Inv X pins σ H s) {e:Addr} {cls:Value} {args:List Value} {h2:Heap} (M:Heap.MadeExcOf s.heap h2 e cls args) (q:E cls none H):X.xe (.ref e) { s with heap:=h2 }:=by
 rw [R.xe]
 have aE:Apt X pins H e:=I.apt R.ex M.new (I.hok.nothing M.new)
 have I2:Inv X pins σ H { s with heap:=h2 }:=I.kept (t':=s.toks) M.keeps
 obtain ⟨t,he,_,_⟩:=M.there
 have hA:X.A.frames=some (X.env :: X.outer):=by rw [← R.stk];exact I.ok.frames
 have FF:=hid_frames (e:=e) (T:=e) I2.stack
 rw [R.stk] at FF
 refine wpAny_leaving_firstW (base:=hid X h2 e e) (a0:=.ref t) hA FF R.frm he hid_stays hid_e rfl rfl rfl λh' hL=>?_
 obtain ⟨k1,k2,k3,k4⟩:=hL
 rw [← R.stk] at k2
 obtain ⟨I3,T',t3,aT⟩:=I2.flown R.ex aE aE k1 k2 k3 k4
 exact I3.out R.ex t3 aE aT q
theorem Raisy.passes (R:Raisy X E):Passes (CXv X.prog X.w) X E:=by
 intro pins σ H s e s' I h
 obtain ⟨ex,T,cls,H',rfl,os,bare,un,hok,t,n1,n2,n3,n4,q⟩:=h
 have I2:Inv X pins σ H' s':=I.call' (ch:=[]) os un hok bare (λb z=>absurd z (by simp))
 have aE:Apt X pins H' ex:=I.apt R.ex n1 n3
 have aT:Apt X pins H' T:=I.apt R.ex n2 n4
 rw [R.xe]
 have hA:X.A.frames=some (X.env :: X.outer):=by rw [← R.stk];exact I.ok.frames
 have FF:=hid_frames (e:=ex) (T:=T) I2.stack
 rw [R.stk] at FF
 obtain ⟨a0,tw⟩:=t.on (hid_T (X:=X) (h:=s'.heap) (e:=ex) (T:=T))
 refine wpAny_leaving_nextW (base:=hid X s'.heap ex T) (a0:=a0) hA FF R.frm tw hid_stays hid_e λh' hL=>?_
 obtain ⟨k1,k2,k3,k4⟩:=hL
 rw [← R.stk] at k2
 obtain ⟨I3,T',t3,aT'⟩:=I2.flown R.ex aE aT k1 k2 k3 k4
 exact I3.out R.ex t3 aE aT' q
end
def veB:List Value:=[.type "ValueError",.type "Exception",.type "BaseException",.type "object"]
theorem exc_obj {K:PySem.W.Frag} {h:Heap} {C:Addr} (X:K.In h) (q:PySem.W.excIn K C veB "ValueError.__new__"=true) :
   ∃ bm N nm qn bs hd sn sub ab col dd k0 k1 k2 k3 k5 mN,h.get? C=some (excClassObj nm qn C N bs bm hd sn sub ab col dd k0 k1 k2 k3 k5 "ValueError.__new__")/\h.Ns N mN/\mN "__init__"=none/\OwnTail h veB bm:=by
 unfold PySem.W.excIn at q
 split at q
 · rename_i dd cd sl ho
   split at q
   · rename_i C' bm k0 k1 k2 k3 n k5 hm hs
     obtain ⟨nm,bs,mro,ns,qn,hd,sn,sub,ab,col,del⟩:=cd
     simp only [Bool.and_eq_true,beq_iff_eq,Bool.not_eq_true'] at q hm
     have q1:=q.1.1.1.1.1
     have q2:=q.1.1.1.1.2
     have q3:=q.1.1.1.2
     have es:sl=#[k0,k1,k2,k3,some (.builtin n),k5]:=Array.ext' hs
     rw [hm,q3,es,q1,q2] at ho
     have hok:=q.1.2
     refine ⟨bm,ns,nm,qn,bs,hd,sn,sub,ab,col,dd,k0,k1,k2,k3,k5,h.nsMap ns,X _ _ ho,?_,PySem.W.nsMap_none_of_in X hok q.2,PySem.W.tail_of_in X q.1.1.2⟩
     exact Heap.Ns.of_isNs (PySem.W.isNs_of_in X hok)
   · cases q
 · cases q
def tRaise (E:XK) (C:Addr) (t:TA):TS:=λ_ σ H=>t σ H λvs H1=>vs.length <= sizeLine/\E (.ref C) none H1
theorem ps_raise {X:Cx} {E:XK} {x:Str} {C:Addr} {e:Expr} {es:List Expr} {t:TA} {np cpos pos:Pos} (R:Raisy X E) (hh:X.A.handled=none) (hg:Gl X x) (hm:X.mg x=some (.ref C)) (hc:PySem.W.excIn X.K C veB "ValueError.__new__"=true)
   (ha:PA X (e :: es) t) (hdb:(x == ("__debug__":Str))=false:=by decide) (he:starEach (e :: es) X.env=(false,eval e X.env) :: starEach es X.env:=by rfl) (hpl:(backTo cpos (starEach (e :: es) X.env)).any (·.1)=false:=by rfl) :
   PS X (.Raise (some (.Call (.Name x np) (e :: es) [] cpos)) none pos) (tRaise E C t):=by
 intro pins s σ H D I h
 obtain ⟨bm,N,nm,qn,bs,hd,sn,sub,ab,col,dd,k0,k1,k2,k3,k5,mN,hC,hN,hni,TL⟩:=exc_obj I.ok.mod.kin hc
 refine wpAny_Raise_call_subT (C:=C) (nm:=nm) (q:=qn) (N:=N) (bs:=bs) (bm:=bm) (hdct:=hd) (sn:=sn) (sub:=sub) (ab:=ab) (col:=col) (dd:=dd) (k0:=k0) (k1:=k1) (k2:=k2) (k3:=k3) (k5:=k5) PySem.F.excBase_ValueError (mN:=mN)
   (TL.hasType PySem.F.excBase_ValueError.hasBase) hh hpl hni (ld_glob I hg hm ⟨rfl,?_⟩ hdb)
 have hq:=ha cpos pins s σ H _ I h
 have e2:backTo cpos (starEach (e :: es) X.env)=backTo cpos ((false,eval e X.env) :: starEach es X.env):=by rw [he]
 rw [e2] at hq ⊢
 refine Calls.evalArgs_plain (thn hq λus s2 ⟨vs,H2,I2,r,z,q⟩=>?_)
 exact ⟨rfl,by rw [← r.length];exact z,I2.bk _ _ hC,hN.keeps I2.bk,TL.keeps I2.bk,λh' ex M=>leave_made R I2 M q⟩
theorem Fun.okX {P:Program} {w:World} {K:PySem.W.Frag} {mg:Str->Option Value} {base:Heap} {x qual:Str} {st:Stmt} {f:Addr} {fd:FuncData} {N ps:List Str} {k:Nat} {sp:Sp} (F:Fun K x qual st f fd) (S:FnScope N ps (defScope st)) (len:∀ vs H Q E,sp vs H Q E->vs.length=ps.length)
   (hbody:∀ (cdv:Value) (A:Around) (outer:List Env) (s:Shared) (H:Hp) (vs:List V) (Q:VK) (E:XK),Room k (A.deeper (envOfC qual (defScope st) s.heap.objs.size f cdv))->Raisy (cxOf (CXv P w) P w K mg base N qual (defScope st) f cdv A outer s H E) E->sp vs H Q E ->
     ∃ t,PSs (cxOf (CXv P w) P w K mg base N qual (defScope st) f cdv A outer s H E) (defBody st) t/\t { nx:=λ_ H'=>Q .non H',rt:=Q } (start N vs) H):FnOk P w K mg base (CXv P w) (k+1) f fd ps sp:=by
 obtain ⟨oc,od,kV,doc,pm,an,cdv,ct,osl,rfl,lk,hcd⟩:=F.ex
 exact fn_of lk hcd S len λA outer s H vs Q E hr hsp=>hbody cdv A outer s H vs Q E hr ⟨rfl,rfl,rfl,rfl⟩ hsp
abbrev Cx.tryX (X:Cx) (pins:List (Addr × Obj)) (R:St->Value->Hp->Prop):Cx :=
 { X with pn:=X.pn++pins,xe:=λe s'=>∃ (ex T:Addr) (cls:Value) (σ':St) (H':Hp),e=.ref ex/\Inv X pins σ' H' s'/\Trc s'.heap ex T cls .none/\Apt X pins H' ex/\Apt X pins H' T/\R σ' cls H' }
abbrev Cx.inH (X:Cx) (e:Value):Cx:={ X with A:=X.A.mark (some e),calm:=false,xe:=λ_ _=>False }
section
variable {X:Cx} {pins pins':List (Addr × Obj)} {σ:St} {H H':Hp} {s:Shared} {R:St->Value->Hp->Prop} {e:Value}
theorem Cx.Ok.try_ (ok:X.Ok):(X.tryX pins R).Ok:=⟨ok.mod,ok.kind,ok.glob,ok.blt,ok.above,ok.inj,ok.has,ok.cab,ok.hd,ok.frames,ok.stk,ok.exf,ok.bs,ok.bsz,ok.noex,ok.exfs,ok.funs,ok.frf⟩
theorem Cx.Ok.untry (ok:(X.tryX pins R).Ok):X.Ok:=⟨ok.mod,ok.kind,ok.glob,ok.blt,ok.above,ok.inj,ok.has,ok.cab,ok.hd,ok.frames,ok.stk,ok.exf,ok.bs,ok.bsz,ok.noex,ok.exfs,ok.funs,ok.frf⟩
theorem Inv.try_ (I:Inv X pins σ H s):Inv (X.tryX pins R) [] σ H s:=⟨I.ok.try_,I.os,I.bare,I.base,I.loc,I.cell,I.free,I.freeC,λp hp=>I.pin p (by simpa [Cx.tryX] using hp),I.hok,I.len⟩
theorem Inv.untry (I:Inv (X.tryX pins R) pins' σ H s):Inv X pins σ H s:=⟨I.ok.untry,I.os,I.bare,I.base,I.loc,I.cell,I.free,I.freeC,λp hp=>I.pin p (List.mem_append_left _ hp),I.hok,I.len⟩
theorem Cx.Ok.inH (ok:X.Ok):(X.inH e).Ok:=⟨ok.mod,ok.kind,ok.glob,ok.blt,ok.above,ok.inj,ok.has,ok.cab,λz=>(by cases z),ok.frames,ok.stk,ok.exf,ok.bs,ok.bsz,ok.noex,ok.exfs,ok.funs,ok.frf⟩
theorem Inv.inH (I:Inv X pins σ H s):Inv (X.inH e) pins σ H s:=⟨I.ok.inH,I.os,I.bare,I.base,I.loc,I.cell,I.free,I.freeC,I.pin,I.hok,I.len⟩
theorem Inv.outH (ok:X.Ok) (I:Inv (X.inH e) pins σ H s):Inv X pins σ H s:=⟨ok,I.os,I.bare,I.base,I.loc,I.cell,I.free,I.freeC,I.pin,I.hok,I.len⟩
theorem SP.outH {D:Ends} {f:Flow} {s':Shared} (ok:X.Ok) (h:SP (X.inH e) pins D f s'):SP X pins D f s':=by
 cases f with
 | next=>obtain ⟨σ',H',I,q⟩:=h;exact ⟨σ',H',I.outH ok,q⟩
 | brk=>obtain ⟨σ',H',I,q⟩:=h;exact ⟨σ',H',I.outH ok,q⟩
 | cont=>obtain ⟨σ',H',I,q⟩:=h;exact ⟨σ',H',I.outH ok,q⟩
 | ret u=>obtain ⟨v,σ',H',I,r,q⟩:=h;exact ⟨v,σ',H',I.outH ok,r,q⟩
theorem SP.untry {D:Ends} {f:Flow} {s':Shared} (h:SP (X.tryX pins R) pins' D f s'):SP X pins D f s':=by
 cases f with
 | next=>obtain ⟨σ',H',I,q⟩:=h;exact ⟨σ',H',I.untry,q⟩
 | brk=>obtain ⟨σ',H',I,q⟩:=h;exact ⟨σ',H',I.untry,q⟩
 | cont=>obtain ⟨σ',H',I,q⟩:=h;exact ⟨σ',H',I.untry,q⟩
 | ret u=>obtain ⟨v,σ',H',I,r,q⟩:=h;exact ⟨v,σ',H',I.untry,r,q⟩
end
structure Framed (X:Cx):Prop where
 ex:X.ex=[]
 stk:X.stack=X.env :: X.outer
 frm:X.env.frame=some X.env.locals
abbrev TH:=Ends->St->Value->Hp->Prop
def PH (X:Cx) (hs:List ExceptHandler) (t:TH):Prop :=
 ∀ (pins:List (Addr × Obj)) (s:Shared) (σ:St) (H:Hp) (D:Ends) (ex T:Addr) (cls:Value),Inv X pins σ H s->Trc s.heap ex T cls .none->Apt X pins H ex->Apt X pins H T->t D σ cls H ->
   wpAny (model X.prog X.w) X.A (handleBy (.ref ex) X.env hs) (SP X pins D) X.xe s
def tHNil:TH:=λ_ _ _ _=>False
theorem ph_nil {X:Cx}:PH X [] tHNil:=λ_ _ _ _ _ _ _ _ _ _ _ _ h=>h.elim
def tHCons (K:PySem.W.Frag) (C:Value) (tb:TS) (tr:TH):TH:=λD σ cls H=>∃ b,PySem.W.exmOne K cls C=some b/\if b=true then tb D σ H else tr D σ cls H
section
variable {X:Cx}
theorem Trc.ty {M:Model} {h:Heap} {e T:Addr} {cls fl:Value} (t:Trc h e T cls fl):PySem.W.Looks M h (typeOf (.ref e)) cls:=by
 obtain ⟨oe,vs,oT,ts,a0,h1,⟨rfl,_⟩,_⟩:=t
 exact (PySem.W.Looks.ld h1).andThen .now
theorem land {pins:List (Addr × Obj)} {σ:St} {H:Hp} {s:Shared} {ex T:Addr} {cls fl:Value} {A:Around} {Q:Unit->Shared->Prop} {E:Value->Shared->Prop} (hx:X.ex=[]) (I:Inv X pins σ H s) (t:Trc s.heap ex T cls fl) (aE:Apt X pins H ex) (aT:Apt X pins H T)
   (h:∀ s' T',Inv X pins σ H s'->Trc s'.heap ex T' cls .none->Apt X pins H T'->Q () s'):wpAny (model X.prog X.w) A (setFlight (.ref ex) none) Q E s:=by
 obtain ⟨a0,tw⟩:=t.on (hid_T (X:=X) (h:=s.heap) (e:=ex) (T:=T))
 refine wpAny_setFlight_noneW (base:=hid X s.heap ex T) (l:=X.stack) hid_stays (hid_frames I.stack) tw λh' k1 k2 k3 k4=>?_
 obtain ⟨I3,T',t3,aT'⟩:=I.flown hx aE aT k1 k2 k3.at λb o q n=>⟨o.slots,k4 b o q n⟩
 exact h _ T' I3 t3 aT'
theorem ph_cons {x:Str} {C:Addr} {b₀:Stmt} {suite:List Stmt} {np pos:Pos} {rest:List ExceptHandler} {tb:TS} {tr:TH} (F:Framed X) (hg:Gl X x) (hm:X.mg x=some (.ref C)) (hb:∀ e,PSs (X.inH e) (b₀ :: suite) tb) (hr:PH X rest tr)
   (hdb:(x == ("__debug__":Str))=false:=by decide):PH X (.ExceptHandler (some (.Name x np)) none (b₀ :: suite) pos :: rest) (tHCons X.K (.ref C) tb tr):=by
 intro pins s σ H D ex T cls I t aE aT h
 obtain ⟨b,hx,h⟩:=h
 refine wpAny_handleBy_cons (codeAny_handlers_test (ld_glob (X:=X.inH (.ref ex)) I.inH hg hm ?_ hdb)) (by intro q;cases q)
 refine (PySem.W.exm_one (M:=model X.prog X.w) I.kIn t.ty hx).at ?_
 cases b with
 | false=>exact hr pins s σ H D ex T cls I t aE aT h
 | true =>
   refine codeAny_handlers_suite (land F.ex I t aE aT λs' T' I' t' aT'=>?_)
   exact wpAny_mono (hb (.ref ex) pins s' σ H D I'.inH h) (λf s2 q=>q.outH I.ok) λ_ _ z=>False.elim z
def tTry (tb:(St->Value->Hp->Prop)->TS) (th:TH):TS:=λD σ H=>∃ R:St->Value->Hp->Prop,tb R D σ H/\∀ σ' cls H',R σ' cls H'->th D σ' cls H'
theorem ps_try {body:List Stmt} {h₀:ExceptHandler} {hs:List ExceptHandler} {pos:Pos} {tb:(St->Value->Hp->Prop)->TS} {th:TH} (F:Framed X) (hb:∀ pins R,PSs (X.tryX pins R) body (tb R)) (hh:PH X (h₀ :: hs) th):PS X (.Try body (h₀ :: hs) [] [] pos) (tTry tb th):=by
 intro pins s σ H D I h
 obtain ⟨R,h,k⟩:=h
 refine wpAny_Try_except (wpAny_mono (hb pins R [] s σ H D I.try_ h) (λf s1 q=>?_) λe s1 q=>?_)
 · have q':=q.untry
   cases f with
   | next=>exact wpAny_execs_nil q'
   | brk=>exact q'
   | cont=>exact q'
   | ret u=>exact q'
 · obtain ⟨ex,T,cls,σ',H',rfl,I1,t,aE,aT,r⟩:=q
   have hA:X.A.frames=some (X.env :: X.outer):=by rw [← F.stk];exact I.ok.frames
   have FF:=hid_frames (e:=ex) (T:=T) I1.stack
   rw [F.stk] at FF
   obtain ⟨a0,tw⟩:=t.on (hid_T (X:=X) (h:=s1.heap) (e:=ex) (T:=T))
   refine wpAny_noteFrame_onW (base:=hid X s1.heap ex T) (a0:=a0) hA FF F.frm tw hid_stays hid_e λh' hL=>?_
   obtain ⟨k1,k2,k3,k4⟩:=hL
   rw [← F.stk] at k2
   obtain ⟨I2,T2,t2,aT2⟩:=I1.flown F.ex aE aT k1 k2 k3 k4
   exact land F.ex I2 t2 aE aT2 λs3 T3 I3 t3 aT3=>hh pins s3 σ' H' D ex T3 cls I3 t3 aE aT3 (k σ' cls H' r)
end
def tCallX (sp:Sp) (dvs:List V) (R:St->Value->Hp->Prop) (t:TA):TE:=λσ H Q=>t σ H λvs H1=>sp (vs++dvs) H1 Q λcls _ H'=>R σ cls H'
def tMethX (C:Addr) (m:Str) (sp:Sp) (dvs:List V) (R:St->Value->Hp->Prop) (ta:TE) (t:TA):TE:=λσ H Q=>ta σ H λx H1=>∃ a dx fs,x=.ref a/\H1 a=some (.ins C dx fs)/\fs.lookup m=none /\
 t σ H1 λvs H2=>sp (x :: (vs++dvs)) H2 Q λcls _ H'=>R σ cls H'
section
variable {X:Cx} {k:Nat} {f C:Addr} {fd:FuncData} {ps:List Str} {sp:Sp} {dvs:List V} {ds:List Value} {x m:Str} {p pos apos:Pos} {e o:Expr} {es:List Expr} {ta:TE} {t:TA} {pins:List (Addr × Obj)} {R:St->Value->Hp->Prop}
theorem run_fnX {pins':List (Addr × Obj)} {σ:St} {H:Hp} {s:Shared} {Q:VK} {us:List Value} {vs:List V} (hx:X.ex=[]) (F:FnOk X.prog X.w X.K X.mg X.base (CXv X.prog X.w) k f fd ps sp) (hr:Room k X.A) (hb:Binds X.K fd ps ds) (hd:Vals dvs ds)
   (I:Inv (X.tryX pins R) pins' σ H s) (r:Vals vs us) (h:sp (vs++dvs) H Q λcls _ H'=>R σ cls H'):wpAny (model X.prog X.w) X.A (call (.ref f) us) (EP (X.tryX pins R) pins' σ Q) (X.tryX pins R).xe s:=by
 have r2:Vals (vs++dvs) (us++ds):=r.append hd
 have hl:(us++ds).length=ps.length:=r2.length.symm.trans (F.len _ _ _ _ h)
 refine wpAny_call (codeAny_mono (F.run X.A X.stack s H ⟨us,[]⟩ _ _ Q _ hr I.env0 (hb s us I.kIn hl) r2 h) λr s' hq=>?_)
 cases r with
 | error e =>
   obtain ⟨ex,T,cls,H',rfl,os,bare,un,hok,t,n1,n2,n3,n4,q⟩:=hq
   exact ⟨ex,T,cls,σ,H',rfl,(I.call' (ch:=[]) os un hok bare (λb z=>absurd z (by simp))).untry,t,I.untry.apt hx n1 n3,I.untry.apt hx n2 n4,q⟩
 | ok fl =>
   cases fl with
   | ret u=>exact I.after hq
   | next=>exact False.elim hq
   | brk=>exact False.elim hq
   | cont=>exact False.elim hq
theorem pe_methX {pl:Sem Bool} (hx:X.ex=[]) (he:PE (X.tryX pins R) o ta) (c:Cls X.K C) (hm:Meth X.K C m f) (F:FnOk X.prog X.w X.K X.mg X.base (CXv X.prog X.w) k f fd ps sp) (hr:Room k X.A) (hb:Binds X.K fd ps ds) (hd:Vals dvs ds) (ha:PA (X.tryX pins R) (e :: es) t)
   (hst:starEach (e :: es) X.env=(false,eval e X.env) :: starEach es X.env:=by rfl) (hpl:(backTo pos (starEach es X.env)).any (·.1)=false:=by rfl)
   (ht:eval (.Call (.Attribute o m apos) (e :: es) [] pos) X.env=(do
     let ov ← eval o X.env
     standAt apos.atName
     let (f,first) ← holding [ov] (getMethod ov m pl)
     callWith pos f first (backTo pos (starEach (e :: es) X.env)) (backToKw pos (keywordEach [] X.env))):=by rfl) :
   PE (X.tryX pins R) (.Call (.Attribute o m apos) (e :: es) [] pos) (tMethX C m sp dvs R ta t):=by
 intro pins' s σ H Q I h
 refine PySem.W.methodCall_KW (pl:=pl) (thn (he pins' s σ H _ I h) λu s1 z=>?_) ht
 obtain ⟨x,H1,I1,rx,a,dx,fs,ex,ea,l,q⟩:=z
 subst ex
 cases (show u=Value.ref a from rx)
 refine getmeth_ok I1 ea c hm l (PySem.W.callWith_K (first:=[.ref a]) (h₀:=X.base) I.ok.mod.kin hm.kp (thn (ha pos pins' s1 σ H1 _ I1 q) λus s2 z=>?_) hst hpl)
 obtain ⟨vs,H2,I2,r,q2⟩:=z
 exact ⟨I2.kIn,run_fnX (us:=.ref a :: us) (vs:=.ref a :: vs) hx F hr hb hd I2 (.cons rfl r) q2⟩
end
end L2

namespace PySem.W
open PySem PySem.Calls PyProof.Rows Builtin Builtin.ObjectAttr Builtin.Getset_descriptor
structure XCls (K:Frag) (C:Addr):Prop where
 ga:findIn K (.ref C) "__getattribute__"=some (some (.builtin "BaseException.__getattribute__"))
 gt:findIn K (.ref C) "__getattr__"=some none
 cl:findIn K (.ref C) "__class__"=some (some (.builtin "object.__class__"))
 ob:mroIn K C (.type "object")=some true
 be:subIn K (.ref C) (.type "BaseException")=some true
 is:isClsIn K C=true
section
variable {prog:Program} {w:World} {A:Around} {E:Value->Shared->Prop} {h:Heap} {g:Array GenState} {d:Drawn} {t:Nat} {os:OsState} {K:Frag} {x C:Addr} {ox:Obj}
end
end PySem.W
namespace L2
open PySem PySem.Spec PyProof.Rows
def excO (x C:Addr):HO:=.ext λh=>∃ o vs,h.get? x=some o/\o.cls=.ref C/\o.data=.fields vs
section
variable {X:Cx} {pins:List (Addr × Obj)} {σ:St} {H:Hp} {s:Shared}
theorem Inv.seen {x:Addr} {o:HO} (I:Inv X pins σ H s) (a:Apt X pins H x) (new:ObjOk X.prog X.w (upd H x o) s.heap x o):Inv X pins σ (upd H x o) s:=by
 obtain ⟨a1,a2,a3,a4,a5⟩:=a
 have ne:∀ b u,H b=some u->b≠x:=λb u e z=>by rw [z,a2] at e;cases e
 refine ⟨I.ok,I.os,I.bare,⟨I.base.keep,I.base.slot,λb u e n hx=>?_,I.base.there,λb xs e=>?_,λb u v e=>?_,λb ps e=>?_⟩,I.loc,I.cell,?_,λy c e=>?_,λp hp=>?_,λb u e=>?_,I.len⟩
 · rw [upd_ne (λz=>by rw [z,a1] at e;cases e)];exact I.base.free b u e n hx
 · have q:=I.base.tups b xs e
   rw [upd_ne (ne _ _ q)];exact q
 · have q:=I.base.frzs b u v e
   rw [upd_ne (ne _ _ q)];exact q
 · obtain ⟨more,q⟩:=I.base.tbls b ps e
   exact ⟨more,by rw [upd_ne (ne _ _ q)];exact q⟩
 · rw [upd_ne (Ne.symm a3)];exact I.free
 · rw [upd_ne (a4 y c e)];exact I.freeC y c e
 · obtain ⟨e,n,r⟩:=I.pin p hp
   exact ⟨e,by rw [upd_ne (a5 p hp)];exact n,r⟩
 · by_cases hb:b=x
   · subst hb;rw [upd_same] at e;cases e;exact new
   · rw [upd_ne hb] at e
     refine (I.hok b u e).stay (λ_ _ _ q=>q) (λc q=>?_) λc xs q=>?_
     · rw [upd_ne (ne _ _ q)];exact q
     · rw [upd_ne (ne _ _ q)];exact q
def Ends.gone (D:Ends) (i:Nat):Ends:=⟨λσ H=>D.nx (σ.set i none) H,D.rt,λσ H=>D.bk (σ.set i none) H,λσ H=>D.ct (σ.set i none) H⟩
def tHAs (K:PySem.W.Frag) (C:Addr) (i:Nat) (tb:TS) (tr:TH):TH:=λD σ cls H=>∃ b,PySem.W.exmOne K cls (.ref C)=some b/\if b=true then ∃ c,cls=.ref c/\∀ ex,H ex=none->tb (D.gone i) (σ.set i (some (.ref ex))) (upd H ex (excO ex c)) else tr D σ cls H
end
end L2

namespace L2
open PySem PySem.Spec PyProof.Rows
section
variable {X:Cx} {scope:Scope} {cl:List (Str × Addr)} {x:Str} {N':List Str}
end
end L2

namespace PySem
open Sem (wp)
def SqI (b:Bool) (h:Heap) (i l:Addr) (k:Nat):Prop:=match b with
 | false=>h.IsListIter i l k
 | true=>h.IsTupleIter i l k
def SqA (b:Bool) (h:Heap) (l:Addr) (xs:Array Value):Prop:=match b with
 | false=>h.IsList l xs
 | true=>h.IsTuple l xs
theorem SqI.at {b:Bool} {h h':Heap} {i l:Addr} {k:Nat} (x:SqI b h i l k) (e:∀ o,h.get? i=some o->h'.get? i=some o):SqI b h' i l k:=by
 cases b<;>(obtain ⟨o,h1,r⟩:=x;exact ⟨o,e o h1,r⟩)
theorem SqA.at {b:Bool} {h h':Heap} {l:Addr} {xs:Array Value} (x:SqA b h l xs) (e:∀ o,h.get? l=some o->h'.get? l=some o):SqA b h' l xs:=by
 cases b<;>(obtain ⟨o,h1,r⟩:=x;exact ⟨o,e o h1,r⟩)
theorem SqI.obj {b:Bool} {h:Heap} {i l:Addr} {k:Nat} (x:SqI b h i l k):∃ o,h.get? i=some o/\∀ v,o.data≠.cell v:=by
 cases b<;>(obtain ⟨o,h1,_,h3⟩:=x;exact ⟨o,h1,λv z=>by rw [h3] at z;cases z⟩)
theorem SqA.lt {b:Bool} {h:Heap} {l:Addr} {xs:Array Value} (x:SqA b h l xs):l < h.objs.size:=by
 cases b<;>(obtain ⟨o,h1,_⟩:=x;exact Heap.lt_size h1)
section
variable {prog:Program} {w:World} {A:Around} {E:Value->Shared->Prop} {s:Shared}
theorem next_sq {b:Bool} {it l:Addr} {i:Nat} {items:Array Value} {x:Value} {Q:Value->Shared->Prop} (hit:SqI b s.heap it l i) (hl:SqA b s.heap l items) (hx:items[i]?=some x)
   (hQ:∀ h',SqI b h' it l (i+1)->Heap.SameBut it s.heap h'->Q x { s with heap:=h' }):wpAny (model prog w) A (Builtin.SmallTypes.nextOf (.ref it)) Q E s:=by
 cases b with
 | false=>exact wpAny_nextOf_list_item hit hl hx hQ
 | true =>
   have hty:s.TypeIs (.ref it) "tuple_iterator":=Heap.IsTupleIter.typeIs hit
   obtain ⟨o,ho,hc,hd⟩:=id hit
   obtain ⟨ol,hol,_,nl,hdl⟩:=hl
   unfold Builtin.SmallTypes.nextOf
   refine wpAny_bind (wpAny_callSpecial?_slot (name:=Str.ofString "__next__") hty F.slot_tuple_iterator_next (wpAny_call_entry F.slot_tuple_iterator_next hty F.entry_tuple_iterator_next ?_ (F.args_tuple_iterator_next_1 _)))
   show wpAny _ _ (field (.ref it) 0 >>= _) _ _ s
   refine wpAny_bind (wpAny_field ho hd (x:=.ref l) rfl ?_)
   show wpAny _ _ (if (Value.ref l == Value.none)=true then _ else _) _ _ s
   rw [if_neg (show ¬ ((Value.ref l == Value.none)=true) from Bool.false_ne_true)]
   show wpAny _ _ (field (.ref it) 1 >>= _) _ _ s
   refine wpAny_bind (wpAny_field ho hd (x:=.int i 0) rfl ?_)
   show wpAny _ _ (seqItems? (.ref l) >>= _) _ _ s
   refine wpAny_bind (wpAny_seqItems hol hdl ?_)
   simp only [Int.toNat_natCast,hx]
   refine wpAny_bind (wpAny_setField ho hd (by simp) (wpAny_pure ⟨x,rfl,wpAny_pure (hQ _ ?_ (Heap.SameBut.update ..))⟩))
   exact ⟨_,Heap.get?_update_self _ ho (Obj.isFreed_of_fields (Obj.data_mapFields hd _)),(Obj.cls_mapFields ..).trans hc,by rw [Obj.data_mapFields hd];simp [rawInt]⟩
theorem next_sq_end {b:Bool} {it l:Addr} {i:Nat} {items:Array Value} {Q:Value->Shared->Prop} (hh:A.handled=none) (hit:SqI b s.heap it l i) (hl:SqA b s.heap l items) (hx:items[i]?=none)
   (hE:∀ h' e,Heap.ExtBut it s.heap h'->(∃ o,h'.get? e=some o/\o.cls=.type "StopIteration")->E (.ref e) { s with heap:=h' }):wpAny (model prog w) A (Builtin.SmallTypes.nextOf (.ref it)) Q E s:=by
 cases b with
 | false=>exact wpAny_nextOf_list_end hh hit hl hx hE
 | true =>
   have hty:s.TypeIs (.ref it) "tuple_iterator":=Heap.IsTupleIter.typeIs hit
   obtain ⟨o,ho,hc,hd⟩:=id hit
   obtain ⟨ol,hol,_,nl,hdl⟩:=hl
   unfold Builtin.SmallTypes.nextOf
   refine wpAny_bind (wpAny_callSpecial?_slot (name:=Str.ofString "__next__") hty F.slot_tuple_iterator_next (wpAny_call_entry F.slot_tuple_iterator_next hty F.entry_tuple_iterator_next ?_ (F.args_tuple_iterator_next_1 _)))
   show wpAny _ _ (field (.ref it) 0 >>= _) _ _ s
   refine wpAny_bind (wpAny_field ho hd (x:=.ref l) rfl ?_)
   show wpAny _ _ (if (Value.ref l == Value.none)=true then _ else _) _ _ s
   rw [if_neg (show ¬ ((Value.ref l == Value.none)=true) from Bool.false_ne_true)]
   show wpAny _ _ (field (.ref it) 1 >>= _) _ _ s
   refine wpAny_bind (wpAny_field ho hd (x:=.int i 0) rfl ?_)
   show wpAny _ _ (seqItems? (.ref l) >>= _) _ _ s
   refine wpAny_bind (wpAny_seqItems hol hdl ?_)
   simp only [Int.toNat_natCast,hx]
   refine wpAny_bind (wpAny_rule (wpAny_bind (wpAny_setField ho hd (by simp) ?_)))
   show wpAny _ _ (newExc (.type "StopIteration") [] >>= _) _ _ _
   refine wpAny_bind ?_
   simp only [newExc,newTuple]
   refine wpAny_bind (wpAny_newObj_type ?_ (by size_fits))
   refine wpAny_bind (m:=firstArgMember _ _) (wpAny_of_eq (a:=Value.none) (by first | rfl | (simp only [firstArgMember];rfl)) ?_)
   refine wpAny_newObj_type ?_ (by size_fits)
   simp only [raiseNew]
   refine wpAny_bind (wpAny_handled ?_)
   first | rw [show A.in1.handled=none from hh] | rw [hh]
   refine wpAny_bind (wpAny_pure (wpAny_throw ?_))
   exact hE _ _ (((Heap.SameBut.update ..).extBut.push _).push _) ⟨_,Heap.get?_push_size _ rfl,rfl⟩
theorem zip_sq_item {b:Bool} {z TI TO i1 i2 l1 l2:Addr} {k1 k2:Nat} {xs ys:Array Value} {x y a c:Value} {Q:Option Value->Shared->Prop} (D:ZipApart z TI TO i1 i2 l1 l2)
   (hz:IsZip s.heap z TI TO .none) (hTI:IsPair s.heap TI (.ref i1) (.ref i2)) (hTO:IsPair s.heap TO a c)
   (h1:SqI b s.heap i1 l1 k1) (h2:SqI b s.heap i2 l2 k2) (hl1:SqA b s.heap l1 xs) (hl2:SqA b s.heap l2 ys) (hx:xs[k1]?=some x) (hy:ys[k2]?=some y)
   (hQ:∀ h',IsZip h' z TI TO (rawInt s.heap.objs.size)->IsPair h' TO x y->SqI b h' i1 l1 (k1+1)->SqI b h' i2 l2 (k2+1)->IsPair h' s.heap.objs.size x y ->
     (∀ c o,c≠z->c≠TO->c≠i1->c≠i2->s.heap.get? c=some o->h'.get? c=some o)->Q (some (.ref s.heap.objs.size)) { s with heap:=h' }):wpAny (model prog w) A (pyNext (.ref z)) Q E s:=by
 have hT:s.TypeIs (.ref z) "zip":=⟨_,hz,rfl⟩
 unfold pyNext
 refine wpAny_bind (wpAny_attempt (wpAny_callSpecial?_slot (name:=Str.ofString "__next__") hT F.slot_zip_next (wpAny_call_entry F.slot_zip_next hT F.entry_zip_next ?_ (F.args_zip_next_1 _))))
 show wpAny _ _ (field (.ref z) 2 >>= _) _ _ _
 refine wpAny_bind (wpAny_field hz rfl (x:=.bool false) rfl ?_)
 show wpAny _ _ (field (.ref z) 3 >>= _) _ _ _
 refine wpAny_bind (wpAny_field hz rfl (x:=.ref TI) rfl (wpAny_bind (wpAny_seqItems hTI rfl ?_)))
 show wpAny _ _ (Builtin.SmallTypes.ownedTupleIsFree (.ref z) >>= _) _ _ _
 refine wpAny_bind ?_
 unfold Builtin.SmallTypes.ownedTupleIsFree
 refine wpAny_bind (wpAny_field hz rfl (x:=.none) rfl (wpAny_pure ?_))
 simp only [if_true]
 refine wpAny_bind (wpAny_rule (wpAny_bind (wpAny_field hz rfl (x:=.ref TO) rfl (wpAny_bind (wpAny_setField_rec hz (by simp) λg1 z1 e1=>?_)))))
 replace z1:IsZip g1 z TI TO .ellipsis:=z1
 refine wpAny_bind ?_
 simp only [List.zipIdx_cons,List.zipIdx_nil,List.forIn_cons,List.forIn_nil]
 refine wpAny_bind (wpAny_bind (wpAny_onRaise ?_))
 show wpAny _ _ (Builtin.SmallTypes.nextOf (.ref i1) >>= _) _ _ _
 refine wpAny_bind (next_sq (h1.at λo e=>e1.extBut _ _ D.i1z e) (hl1.at λo e=>e1.extBut _ _ D.l1z e) hx λg2 h1' e2=>wpAny_pure ?_)
 have t2:IsPair g2 TO a c:=e2.extBut _ _ D.TOi1 (e1.extBut _ _ D.TOz hTO)
 refine wpAny_bind (wpAny_seqItems t2 rfl (wpAny_bind (wpAny_updateSeq_pair t2 λg3 t3 e3=>?_)))
 replace t3:IsPair g3 TO x c:=t3
 refine wpAny_bind (wpAny_letGo (wpAny_pure ?_))
 refine wpAny_bind (wpAny_bind (wpAny_onRaise ?_))
 show wpAny _ _ (Builtin.SmallTypes.nextOf (.ref i2) >>= _) _ _ _
 refine wpAny_bind (next_sq (h2.at λo e=>e3.extBut _ _ D.TOi2.symm (e2.extBut _ _ D.i12.symm (e1.extBut _ _ D.i2z e))) (hl2.at λo e=>e3.extBut _ _ D.l2TO (e2.extBut _ _ D.l2i1 (e1.extBut _ _ D.l2z e))) hy λg4 h2' e4=>wpAny_pure ?_)
 have t4:IsPair g4 TO x c:=e4.extBut _ _ D.TOi2 t3
 refine wpAny_bind (wpAny_seqItems t4 rfl (wpAny_bind (wpAny_updateSeq_pair t4 λg5 t5 e5=>?_)))
 replace t5:IsPair g5 TO x y:=t5
 refine wpAny_bind (wpAny_letGo (wpAny_pure (wpAny_pure ?_)))
 refine wpAny_bind (wpAny_seqItems t5 rfl (wpAny_bind (wpAny_newTuple ?_)))
 have hsz:g5.objs.size=s.heap.objs.size:=by rw [e5.1,e4.1,e3.1,e2.1,e1.1]
 have z5:IsZip g5 z TI TO .ellipsis:=e5.extBut _ _ D.TOz.symm (e4.extBut _ _ D.i2z.symm (e3.extBut _ _ D.TOz.symm (e2.extBut _ _ D.i1z.symm z1)))
 have k5:∀ c o,c≠z->c≠TO->c≠i1->c≠i2->s.heap.get? c=some o->g5.get? c=some o:=λc o c1 c2 c3 c4 e =>
   e5.extBut _ _ c2 (e4.extBut _ _ c4 (e3.extBut _ _ c2 (e2.extBut _ _ c3 (e1.extBut _ _ c1 e))))
 have w1:SqI b g5 i1 l1 (k1+1):=h1'.at λo e=>e5.extBut _ _ D.TOi1.symm (e4.extBut _ _ D.i12 (e3.extBut _ _ D.TOi1.symm e))
 have w2:SqI b g5 i2 l2 (k2+1):=h2'.at λo e=>e5.extBut _ _ D.TOi2.symm e
 have zlt:z < g5.objs.size:=Heap.lt_size z5
 show wpAny _ _ (Builtin.SmallTypes.ownedTupleHandOut (.ref z) (.ref g5.objs.size) >>= _) _ _ _
 refine wpAny_bind ?_
 unfold Builtin.SmallTypes.ownedTupleHandOut
 have z6:IsZip (g5.push { cls:=.type "tuple",data:=.seq #[x,y] }) z TI TO .ellipsis:=Heap.get?_push_of_some _ z5
 refine wpAny_bind (wpAny_setField_rec z6 (by simp) λg7 z7 e7=>?_)
 replace z7:IsZip g7 z TI TO (rawInt g5.objs.size):=z7
 refine wpAny_setField_rec z7 (by simp) λg8 z8 e8=>?_
 replace z8:IsZip g8 z TI TO (rawInt g5.objs.size):=z8
 have up:∀ c o,c≠z->g5.get? c=some o->g8.get? c=some o:=λc o c1 e=>e8.extBut _ _ c1 (e7.extBut _ _ c1 (Heap.get?_push_of_some _ e))
 have t8:IsPair g8 g5.objs.size x y:=e8.extBut _ _ (Nat.ne_of_gt zlt) (e7.extBut _ _ (Nat.ne_of_gt zlt) (Heap.get?_push_size _ rfl))
 rw [hsz] at z8 t8
 refine wpAny_pure ⟨_,rfl,wpAny_pure ?_⟩
 show Q (some (.ref g5.objs.size)) _
 rw [hsz]
 exact hQ g8 z8 (up _ _ D.TOz t5) (w1.at λo e=>up _ o D.i1z e) (w2.at λo e=>up _ o D.i2z e) t8 λc o c1 c2 c3 c4 e=>up c o c1 (k5 c o c1 c2 c3 c4 e)
theorem zip_sq_end {b:Bool} {z TI TO i1 i2 l1 l2:Addr} {k1:Nat} {xs:Array Value} {Q:Option Value->Shared->Prop} (hh:A.handled=none) (D:ZipApart z TI TO i1 i2 l1 l2)
   (hz:IsZip s.heap z TI TO .none) (hTI:IsPair s.heap TI (.ref i1) (.ref i2)) (h1:SqI b s.heap i1 l1 k1) (hl1:SqA b s.heap l1 xs) (hx:xs[k1]?=none)
   (hQ:∀ h',(∀ c o,c≠z->c≠i1->s.heap.get? c=some o->h'.get? c=some o)->Q none { s with heap:=h' }):wpAny (model prog w) A (pyNext (.ref z)) Q E s:=by
 have hT:s.TypeIs (.ref z) "zip":=⟨_,hz,rfl⟩
 unfold pyNext
 refine wpAny_bind (wpAny_attempt (wpAny_callSpecial?_slot (name:=Str.ofString "__next__") hT F.slot_zip_next (wpAny_call_entry F.slot_zip_next hT F.entry_zip_next ?_ (F.args_zip_next_1 _))))
 show wpAny _ _ (field (.ref z) 2 >>= _) _ _ _
 refine wpAny_bind (wpAny_field hz rfl (x:=.bool false) rfl ?_)
 show wpAny _ _ (field (.ref z) 3 >>= _) _ _ _
 refine wpAny_bind (wpAny_field hz rfl (x:=.ref TI) rfl (wpAny_bind (wpAny_seqItems hTI rfl ?_)))
 show wpAny _ _ (Builtin.SmallTypes.ownedTupleIsFree (.ref z) >>= _) _ _ _
 refine wpAny_bind ?_
 unfold Builtin.SmallTypes.ownedTupleIsFree
 refine wpAny_bind (wpAny_field hz rfl (x:=.none) rfl (wpAny_pure ?_))
 simp only [if_true]
 refine wpAny_bind (wpAny_rule (wpAny_bind (wpAny_field hz rfl (x:=.ref TO) rfl (wpAny_bind (wpAny_setField_rec hz (by simp) λg1 z1 e1=>?_)))))
 replace z1:IsZip g1 z TI TO .ellipsis:=z1
 refine wpAny_bind ?_
 simp only [List.zipIdx_cons,List.zipIdx_nil,List.forIn_cons,List.forIn_nil]
 refine wpAny_bind (wpAny_bind (wpAny_onRaise ?_))
 show wpAny _ _ (Builtin.SmallTypes.nextOf (.ref i1) >>= _) _ _ _
 refine wpAny_bind (next_sq_end hh (h1.at λo e=>e1.extBut _ _ D.i1z e) (hl1.at λo e=>e1.extBut _ _ D.l1z e) hx λg2 e e2 he=>?_)
 obtain ⟨oe,hoe,hce⟩:=he
 have z2:IsZip g2 z TI TO .ellipsis:=e2 _ _ D.i1z.symm z1
 have hez:e≠z:=λq=>by subst q;rw [z2] at hoe;cases hoe;simp at hce
 refine wpAny_setField_rec z2 (by simp) λg3 _ e3=>?_
 refine wpAny_bind (wpAny_isInstance (T:="StopIteration") (b:=true) ⟨oe,e3.extBut _ _ hez hoe,hce⟩ isSubtype_stop ?_)
 exact wpAny_pure (hQ g3 λc o c1 c2 q=>e3.extBut _ _ c1 (e2 _ _ c2 (e1.extBut _ _ c1 q)))
abbrev zipT1 (h:Heap) (l1:Addr):Heap:=h.push { cls:=.type "tuple_iterator",data:=.fields #[.ref l1,.int 0 0] }
abbrev zipT2 (h:Heap) (l1 l2:Addr):Heap:=(zipT1 h l1).push { cls:=.type "tuple_iterator",data:=.fields #[.ref l2,.int 0 0] }
abbrev zipT3 (h:Heap) (l1 l2:Addr):Heap:=(zipT2 h l1 l2).push { cls:=.type "tuple",data:=.seq #[.ref h.objs.size,.ref (zipT1 h l1).objs.size] }
abbrev zipT4 (h:Heap) (l1 l2:Addr):Heap:=(zipT3 h l1 l2).push { cls:=.type "tuple",data:=.seq #[.none,.none] }
abbrev zipT5 (h:Heap) (l1 l2:Addr):Heap:=(zipT4 h l1 l2).push { cls:=.type "zip",data:=.fields #[.none,.bool false,.bool false,.ref (zipT2 h l1 l2).objs.size,.ref (zipT3 h l1 l2).objs.size] }
theorem meets_zipT (l1 l2:Addr) (xs ys:Array Value) :
   Meets (Builtin.«zip.__new__» ⟨[.type "zip",.ref l1,.ref l2],[]⟩) (λ_ R s=>s.heap.IsTuple l1 xs/\s.heap.IsTuple l2 ys/\R (.ok (.ret (.ref (zipT4 s.heap l1 l2).objs.size))) { s with heap:=zipT5 s.heap l1 l2 }) :=
 .of_wp λprog w A R s h=>by
   obtain ⟨hp,g,d,tk,os⟩:=s;obtain ⟨hl1,hl2,h⟩:=h
   have hsub:=sub_zip
   have hL1:Heap.IsTuple (Shared.heap ⟨hp,g,d,tk,os⟩) l1 xs:=hl1
   have hL2:Heap.IsTuple (Shared.heap ⟨hp.push { cls:=.type "tuple_iterator",data:=.fields #[.ref l1,.int 0 0] },g,d,tk,os⟩) l2 ys:=Heap.IsTuple.push hl2 _
   wp_walk using wpAny_pyIter_tuple hL1,wpAny_pyIter_tuple hL2
   exact ⟨_,rfl,h⟩
theorem call_zip_sq {b:Bool} {l1 l2:Addr} {xs ys:Array Value} {Q:Value->Shared->Prop} (hl1:SqA b s.heap l1 xs) (hl2:SqA b s.heap l2 ys)
   (h:∀ h',IsZip h' (s.heap.objs.size+4) (s.heap.objs.size+2) (s.heap.objs.size+3) .none->IsPair h' (s.heap.objs.size+2) (.ref s.heap.objs.size) (.ref (s.heap.objs.size+1)) ->
     IsPair h' (s.heap.objs.size+3) .none .none->SqI b h' s.heap.objs.size l1 0->SqI b h' (s.heap.objs.size+1) l2 0->(∀ c o,s.heap.get? c=some o->h'.get? c=some o)->Q (.ref (s.heap.objs.size+4)) { s with heap:=h' }) :
   wpAny (model prog w) A (call (.type "zip") [.ref l1,.ref l2]) Q E s:=by
 cases b with
 | false=>exact call_zip_2 hl1 hl2 λh' a1 a2 a3 a4 a5 _ a7=>h h' a1 a2 a3 a4 a5 a7
 | true =>
   refine callType_new F.called_zip (by decide) (F.typeCall_zip_2 _ _) (F.newCall_zip_2 _ _) (λobj=>F.args_object_init_3 obj _ _) F.entry_zip_new (meets_zipT l1 l2 xs ys) ⟨hl1,hl2,?_⟩
   have z1:(zipT1 s.heap l1).objs.size=s.heap.objs.size+1:=Heap.size_push ..
   have z2:(zipT2 s.heap l1 l2).objs.size=s.heap.objs.size+2:=by rw [Heap.size_push,z1]
   have z3:(zipT3 s.heap l1 l2).objs.size=s.heap.objs.size+3:=by rw [Heap.size_push,z2]
   have z4:(zipT4 s.heap l1 l2).objs.size=s.heap.objs.size+4:=by rw [Heap.size_push,z3]
   have g5:(zipT5 s.heap l1 l2).get? (zipT4 s.heap l1 l2).objs.size=some _:=Heap.get?_push_size _ rfl
   have g4:(zipT5 s.heap l1 l2).get? (zipT3 s.heap l1 l2).objs.size=some _:=Heap.get?_push_of_some _ (Heap.get?_push_size _ rfl)
   have g3:(zipT5 s.heap l1 l2).get? (zipT2 s.heap l1 l2).objs.size=some _:=Heap.get?_push_of_some _ (Heap.get?_push_of_some _ (Heap.get?_push_size _ rfl))
   have g2:(zipT5 s.heap l1 l2).get? (zipT1 s.heap l1).objs.size=some _:=Heap.get?_push_of_some _ (Heap.get?_push_of_some _ (Heap.get?_push_of_some _ (Heap.get?_push_size _ rfl)))
   have g1:(zipT5 s.heap l1 l2).get? s.heap.objs.size=some _:=Heap.get?_push_of_some _ (Heap.get?_push_of_some _ (Heap.get?_push_of_some _ (Heap.get?_push_of_some _ (Heap.get?_push_size _ rfl))))
   show _/\_
   rw [z2,z3,z4] at g5
   rw [z1,z2] at g3
   rw [z3] at g4
   rw [z1] at g2
   rw [z4]
   exact ⟨⟨_,g5,rfl⟩,h _ g5 g3 g4 ⟨_,g1,rfl,rfl⟩ ⟨_,g2,rfl,rfl⟩ λc o x=>Heap.get?_push_of_some _ (Heap.get?_push_of_some _ (Heap.get?_push_of_some _ (Heap.get?_push_of_some _ (Heap.get?_push_of_some _ x))))⟩
end
end PySem
namespace L2
open PySem PySem.Spec PyProof.Rows
def Sq (b:Bool) (K:PySem.W.Frag) (H:Hp) (a:Addr) (xs:List V):Prop:=match b with
 | false=>SqL K H a xs
 | true=>SqT K H a xs
theorem Sq.same {b:Bool} {K:PySem.W.Frag} {H H':Hp} {a:Addr} {xs:List V} (e:Same H H') (h:Sq b K H a xs):Sq b K H' a xs:=by
 cases b
 · exact e.seq h
 · exact e.seqT h
section
variable {X:Cx}
theorem Inv.sq {pins:List (Addr × Obj)} {σ:St} {H:Hp} {s:Shared} {b:Bool} {a:Addr} {xs:List V} (I:Inv X pins σ H s) (h:Sq b X.K H a xs):∃ its:List Value,Vals xs its/\SqA b s.heap a its.toArray:=by
 cases b with
 | false=>obtain ⟨its,r,p,_⟩:=I.list h;exact ⟨its,r,p.isList⟩
 | true=>obtain ⟨its,r,p,_⟩:=I.tuple h;exact ⟨its,r,p⟩
theorem Inv.sq_inj {pins:List (Addr × Obj)} {σ:St} {H:Hp} {s:Shared} {b:Bool} {a:Addr} {xs ys:List V} (I:Inv X pins σ H s) (h:Sq b X.K H a xs) (h':Sq b X.K H a ys):xs=ys:=by
 cases b
 · exact I.list_inj h h'
 · exact I.tuple_inj h h'
theorem Inv.turnedL {pins:List (Addr × Obj)} {σ:St} {H:Hp} {s:Shared} {h':Heap} {t':Nat} {ch:List Addr} (I:Inv X pins σ H s) (hf:∀ b∈ch,FpOk X pins H b) (k:∀ b o,b ∉ ch->s.heap.get? b=some o->h'.get? b=some o):Inv X pins σ H { s with heap:=h',toks:=t' }:=by
 refine I.step (g':=s.gens) (d':=s.drawn) (ch:=ch) (λb hb=>?_) (λb o _ _ n e _=>k b o n e) (λb o _ _ n e _=>⟨o.slots,k b o n e⟩) (λ_ _ _ _ n=>n) (λb o n e=>⟨o,k b o n e⟩) (λ_ _ q=>q) (λ_ _ _ q=>q) (λ_ ps q=>⟨#[],by rw [Array.append_empty];exact q⟩) (λm hm=>?_) (λa o e=>?_) I.bare
 · obtain ⟨_,f1,_,f3,f4,f5⟩:=hf b hb
   exact ⟨f3,f1,f4,f5⟩
 · obtain ⟨o,es,ep,ho,r⟩:=hm
   exact ⟨o,es,ep,k _ o (λz=>(hf _ z).2.1 rfl) ho,r⟩
 · refine (I.hok a o e).stay (λb u hb q=>k b u (λz=>?_) q) (λ_ q=>q) λ_ _ q=>q
   have n:=(hf b z).1
   rcases hb with rfl | hb
   · rw [n] at e;cases e
   · rw [n] at hb;cases hb
theorem Inv.aptSz {pins:List (Addr × Obj)} {σ:St} {H:Hp} {s:Shared} {b:Addr} (I:Inv X pins σ H s) (hb:s.heap.objs.size <= b) (hn:H b=none):Apt X pins H b:=by
 obtain ⟨_,f1,_,_,f4,f5⟩:=I.fpOk hb hn
 refine ⟨?_,hn,f1,f4,f5⟩
 cases q:X.s₀.heap.get? b with
 | none=>rfl
 | some o=>exact absurd (Nat.lt_of_lt_of_le (Heap.lt_size q) (Nat.le_trans I.sz hb)) (Nat.lt_irrefl _)
def Itz (b:Bool) (K:PySem.W.Frag) (a1 a2:Addr):It :=
 ⟨λi H=>∃ xs ys x y,Sq b K H a1 xs/\Sq b K H a2 ys/\xs[i]?=some x/\ys[i]?=some y,
  λi H v H'=>∃ T x y,H T=none/\v=.ref T/\H'=upd H T (.tup [x,y])/\(∀ xs,Sq b K H a1 xs->xs[i]?=some x)/\∀ ys,Sq b K H a2 ys->ys[i]?=some y,
  λi H=>∃ xs,Sq b K H a1 xs/\xs.length <= i⟩
theorem turn_zip {P:Program} {w:World} {K:PySem.W.Frag} {elts:List Expr} {kt:Nat} {pt:Pos} {b:Bool} {z TI TO i1 i2 a1 a2:Addr} (D:ZipApart z TI TO i1 i2 a1 a2) :
   Turn P w K (.Tuple elts kt pt) (Itz b K a1 a2) [z,TI,TO,i1,i2] z (λi h=>IsZip h z TI TO .none/\IsPair h TI (.ref i1) (.ref i2)/\(∃ a c,IsPair h TO a c)/\SqI b h i1 a1 i/\SqI b h i2 a2 i) where
 mem:=List.mem_cons_self
 obj:=λi h st c hc=>by
   obtain ⟨s1,s2,⟨_,_,s3⟩,s4,s5⟩:=st
   simp only [List.mem_cons,List.not_mem_nil,or_false] at hc
   rcases hc with rfl | rfl | rfl | rfl | rfl
   · exact ⟨_,s1,λv q=>by cases q⟩
   · exact ⟨_,s2,λv q=>by cases q⟩
   · exact ⟨_,s3,λv q=>by cases q⟩
   · exact s4.obj
   · exact s5.obj
 keep:=λi h h' st k=>by
   obtain ⟨s1,s2,⟨u,v,s3⟩,s4,s5⟩:=st
   exact ⟨k z (by simp) _ s1,k TI (by simp) _ s2,⟨u,v,k TO (by simp) _ s3⟩,s4.at λo e=>k i1 (by simp) o e,s5.at λo e=>k i2 (by simp) o e⟩
 item:=by
   intro X hP hw hK hc i pins s σ H E I hf st hg
   subst hP hw hK
   obtain ⟨s1,s2,⟨u,v,s3⟩,s4,s5⟩:=st
   obtain ⟨xs,ys,x,y,q1,q2,hx,hy⟩:=hg
   obtain ⟨us,r1,p1⟩:=I.sq q1
   obtain ⟨ws,r2,p2⟩:=I.sq q2
   obtain ⟨ux,hux,rx⟩:=r1.get hx
   obtain ⟨uy,huy,ry⟩:=r2.get hy
   refine zip_sq_item D s1 s2 s3 s4 s5 p1 p2 (x:=ux) (y:=uy) (by simpa using hux) (by simpa using huy) λh' t1 t2 t3 t4 t5 kk=>?_
   have hfresh:H s.heap.objs.size=none:=I.hok.fresh (Nat.le_refl _)
   have lt:∀ {c o},s.heap.get? c=some o->c≠s.heap.objs.size:=λe=>Nat.ne_of_lt (Heap.lt_size e)
   refine ⟨_,rfl,wpAny_letOwnedTupleGo_zip t1 λh'' u1 e2=>?_⟩
   have ch:∀ c o,c ∉ [z,TO,i1,i2]->s.heap.get? c=some o->h''.get? c=some o:=λc o n e=>by
     have n1:c≠z:=λq=>n (by simp [q])
     exact e2.extBut _ _ n1 (kk c o n1 (λq=>n (by simp [q])) (λq=>n (by simp [q])) (λq=>n (by simp [q])) e)
   have sub:∀ c∈[z,TO,i1,i2],c∈[z,TI,TO,i1,i2]:=λc hc=>by
     simp only [List.mem_cons,List.not_mem_nil,or_false] at hc ⊢
     rcases hc with h | h | h | h<;>simp [h]
   have I1:Inv X pins σ H { s with heap:=h'' }:=I.turnedL (t':=s.toks) (λb hb=>hf b (sub b hb)) ch
   have T5:IsPair h'' s.heap.objs.size ux uy:=e2.extBut _ _ (lt s1).symm t5
   have apt:=I.aptSz (Nat.le_refl s.heap.objs.size) hfresh
   have I2:=I1.seen (o:=.tup [x,y]) apt ⟨by show 2 <= sizeLine;decide,[ux,uy],.cons rx (.cons ry .nil),⟨_,T5,rfl,_,rfl⟩⟩
   refine ⟨.ref s.heap.objs.size,_,I2,rfl,⟨_,x,y,hfresh,rfl,rfl,λzs hz=>by rw [I.sq_inj hz q1];exact hx,λzs hz=>by rw [I.sq_inj hz q2];exact hy⟩,⟨u1,e2.extBut _ _ D.TIz (kk _ _ D.TIz D.TITO D.TIi1 D.TIi2 s2),⟨_,_,e2.extBut _ _ D.TOz t2⟩,t3.at λo e=>e2.extBut _ _ D.i1z e,t4.at λo e=>e2.extBut _ _ D.i2z e⟩,λb hb=>?_⟩
   obtain ⟨o,ho,_⟩:∃ o,s.heap.get? b=some o/\True:=by
     simp only [List.mem_cons,List.not_mem_nil,or_false] at hb
     rcases hb with rfl | rfl | rfl | rfl | rfl
     · exact ⟨_,s1,trivial⟩
     · exact ⟨_,s2,trivial⟩
     · exact ⟨_,s3,trivial⟩
     · obtain ⟨o,e,_⟩:=s4.obj;exact ⟨o,e,trivial⟩
     · obtain ⟨o,e,_⟩:=s5.obj;exact ⟨o,e,trivial⟩
   rw [upd_ne (lt ho)]
   exact (hf b hb).1
 done:=by
   intro X hP hw hK hc i pins s σ H E I hf st hg
   subst hP hw hK
   obtain ⟨s1,s2,_,s4,s5⟩:=st
   obtain ⟨xs,q1,hx⟩:=hg
   obtain ⟨us,r1,p1⟩:=I.sq q1
   have hl:=r1.length
   exact zip_sq_end (I.ok.hd hc) D s1 s2 s4 p1 (by simp;omega) λh' kk=>⟨rfl,I.turnedL (t':=s.toks) (ch:=[z,i1]) (λb hb=>hf b (by
     simp only [List.mem_cons,List.not_mem_nil,or_false] at hb ⊢
     rcases hb with q | q<;>simp [q])) λb o n e=>kk b o (λq=>n (by simp [q])) (λq=>n (by simp [q])) e⟩
 self:=λA i s Q E st hQ=>wpAny_pyIter_zip st.1 hQ
def iZip (b:Bool) (K:PySem.W.Frag) (ta:TA):TI:=λσ H R=>ta σ H λvs H1=>∃ a1 a2 xs ys,vs=[.ref a1,.ref a2]/\Sq b K H1 a1 xs/\Sq b K H1 a2 ys/\R (Itz b K a1 a2) H1
def iZips (K:PySem.W.Frag) (ta:TA):TI:=λσ H R=>ta σ H λvs H1=>∃ b a1 a2 xs ys,vs=[.ref a1,.ref a2]/\Sq b K H1 a1 xs/\Sq b K H1 a2 ys/\R (Itz b K a1 a2) H1
theorem boot_zip:bootBuiltins "zip"=some (.type "zip"):=by decide +kernel
theorem apart_new {n l1 l2:Nat} (h1:l1 < n) (h2:l2 < n):ZipApart (n+4) (n+2) (n+3) n (n+1) l1 l2:=by
 constructor<;>(show (_:Nat)≠_;omega)
theorem pi_zip {a c:Expr} {ta:TA} {p pos pt:Pos} {elts:List Expr} {kt:Nat} (hg:Gl X "zip") (hm:X.mg "zip"=none) (ha:PA X [a,c] ta) (hs:starEach [a,c] X.env=[(false,eval a X.env),(false,eval c X.env)]:=by rfl) (hs2:starEach [c] X.env=[(false,eval c X.env)]:=by rfl) :
   PI X (.Tuple elts kt pt) (.Call (.Name "zip" p) [a,c] [] pos) (iZips X.K ta):=by
 intro pins s σ H R I h
 refine Call_ (ld_blt I hg hm boot_zip (PyProof.Rows.callWith_type1 (thn (ha pos pins s σ H _ I h) λus s1 ⟨vs,H1,I1,r1,q1⟩=>?_) (by rw [hs,hs2]) (by rw [hs2];rfl)))
 obtain ⟨b,a1,a2,xs,ys,e,h1,h2,q⟩:=q1
 subst e
 obtain ⟨u,w',rfl,ru,rw⟩:=vals2 r1
 cases ru
 cases rw
 obtain ⟨us,_,p1⟩:=I1.sq h1
 obtain ⟨ws,_,p2⟩:=I1.sq h2
 refine call_zip_sq p1 p2 λh' z1 z2 z3 z4 z5 kk=>wpAny_pyIter_zip z1 ?_
 have fr:∀ b,s1.heap.objs.size <= b->FpOk X pins H1 b:=λb hb=>I1.fpOk hb (I1.hok.fresh hb)
 refine ⟨_,[s1.heap.objs.size+4,s1.heap.objs.size+2,s1.heap.objs.size+3,s1.heap.objs.size,s1.heap.objs.size+1],_,_,H1,rfl,I1.kept (t':=s1.toks) kk,turn_zip (apart_new p1.lt p2.lt),⟨z1,z2,⟨_,_,z3⟩,z4,z5⟩,λb hb=>fr b ?_,q⟩
 simp only [List.mem_cons,List.not_mem_nil,or_false] at hb
 rcases hb with rfl | rfl | rfl | rfl | rfl<;>omega
end
end L2

namespace L2
open PySem PySem.Spec PyProof.Rows
section
variable {X:Cx}
def tRevS (K:PySem.W.Frag) (te tk:TE):TE:=λσ H Q=>te σ H λx H1=>tk σ H1 λy H2=>y=.int (-1)/\∃ a xs,x=.ref a/\SqL K H2 a xs/\∀ p,H2 p=none->Q (.ref p) (upd H2 p (.lst xs.reverse))
theorem Vals.rev:∀ {xs:List V} {us:List Value},Vals xs us->Vals xs.reverse us.reverse
 | _,_,.nil=>.nil
 | x :: xs,u :: us,.cons r t=>by
   rw [List.reverse_cons,List.reverse_cons]
   exact (Vals.rev t).append (.cons r .nil)
def rRemove:V->List V->Hp->VK->Prop:=λx vs H Q=>∃ (l:Addr) (ns:List Int) (i:Int),x=.ref l/\vs=[.int i]/\H l=some (.lst (ns.map V.int))/\i∈ns/\Q .non (upd H l (.lst ((ns.erase i).map V.int)))
theorem intsAt:∀ {us:List Value} {ns:List Int} {m:Nat} {n:Int},IntsAre us ns->ns[m]?=some n->∃ t,us[m]?=some (.int n t)
 | _,_,_,_,.nil,h=>by simp at h
 | _,_,0,_,.cons n t _,h=>by simp at h;subst h;exact ⟨t,rfl⟩
 | _,_,m+1,_,.cons _ _ r,h=>by
   obtain ⟨t,e⟩:=intsAt (m:=m) r (by simpa using h)
   exact ⟨t,by simpa using e⟩
theorem Vals.erase:∀ {xs:List V} {us:List Value} (j:Nat),Vals xs us->Vals (xs.eraseIdx j) (us.eraseIdx j)
 | _,_,_,.nil=>.nil
 | _,_,0,.cons _ t=>t
 | _,_,j+1,.cons r t=>.cons r (Vals.erase j t)
theorem erase_map {α β:Type} (f:α->β):∀ (xs:List α) (j:Nat),(xs.map f).eraseIdx j=(xs.eraseIdx j).map f
 | [],_=>rfl
 | _ :: _,0=>rfl
 | x :: xs,j+1=>by
   show f x :: (xs.map f).eraseIdx j=f x :: (xs.eraseIdx j).map f
   rw [erase_map f xs j]
theorem mt_remove:MtM X "list.remove" rRemove:=by
 intro pins s σ H x vs v us Q I rx rv h
 obtain ⟨l,ns,i,rfl,rfl,hH,hi,q⟩:=h
 cases rx
 obtain ⟨u,rfl,ru⟩:=rv.one
 obtain ⟨t,rfl⟩:=ru
 obtain ⟨z,its,n,r,hl,e⟩:=I.lstM hH
 have ia:=intsAre_of r
 rw [List.length_map] at hl z
 have hj:ns.idxOf i < ns.length:=List.idxOf_lt_length_of_mem hi
 obtain ⟨tj,hitj⟩:=intsAt ia (List.getElem?_eq_getElem hj)
 rw [List.getElem_idxOf hj] at hitj
 have hjs:ns.idxOf i < its.toArray.size:=by rw [List.size_toArray,← hl];exact hj
 let f:Value->Bool:=λy=>match y with
   | .int a _=>a == i
   | _=>false
 have eit:its.toArray[ns.idxOf i]=.int i tj:=by
   have h2:its.toArray[ns.idxOf i]?=some (.int i tj):=by rw [← Array.getElem?_toList];exact hitj
   rw [Array.getElem?_eq_getElem hjs] at h2
   exact Option.some.inj h2
 refine call_meets F.slot_list_remove ⟨_,e,rfl⟩ F.entry_list_remove (F.args_list_remove_2 _ _)
   (MeetsSeq.list_remove l its.toArray n (.int i t) f (λy hy=>?_) (ns.idxOf i) hjs (by rw [eit];simp [f]) (λm hm hlt=>?_) (by rw [List.size_toArray];omega)) ⟨e,?_⟩
 · obtain ⟨m,hm,rfl⟩:=List.getElem_of_mem (Array.mem_toList_iff.mpr hy)
   have hmn:m < ns.length:=by
     have:m < its.length:=hm
     omega
   obtain ⟨t',ht'⟩:=intsAt ia (List.getElem?_eq_getElem hmn)
   have:its.toArray.toList[m]=.int ns[m] t':=by
     have h2:=List.getElem?_eq_getElem (l:=its) (show m < its.length from hm)
     rw [ht'] at h2
     exact (Option.some.inj h2).symm
   rw [this]
   exact MeetsSeq.EqGives.int _ _ _ _
 · have hmn:m < ns.length:=by omega
   obtain ⟨t',ht'⟩:=intsAt ia (List.getElem?_eq_getElem hmn)
   have em:its.toArray[m]=.int ns[m] t':=by
     have h2:its.toArray[m]?=some (.int ns[m] t'):=by rw [← Array.getElem?_toList];exact ht'
     rw [Array.getElem?_eq_getElem hm] at h2
     exact Option.some.inj h2
   rw [em]
   show (ns[m] == i)=false
   have:=List.not_of_lt_findIdx (p:=(· == i)) (xs:=ns) (i:=m) hlt
   simpa using this
 · have ee:(ns.erase i).map V.int=(ns.map V.int).eraseIdx (ns.idxOf i):=by
     rw [List.erase_eq_eraseIdx_of_idxOf rfl,erase_map]
   rw [ee] at q
   refine ⟨.non,_,I.lset (its':=its.eraseIdx (ns.idxOf i)) hH e ?_ (Vals.erase _ r) ?_,rfl,q⟩
   · show its.toArray.eraseIdxIfInBounds (ns.idxOf i)=(its.eraseIdx (ns.idxOf i)).toArray
     rw [List.eraseIdxIfInBounds_toArray]
   · have:=List.length_eraseIdx_le (ns.map V.int) (ns.idxOf i)
     rw [List.length_map] at this
     omega
end
end L2

namespace L2
open PySem PySem.Spec PyProof.Rows
section
variable {X:Cx}
end
end L2

namespace L2
open PySem PySem.Spec PyProof.Rows
theorem pyHash_none {prog:Program} {w:World} {A:Around} {E:Value->Shared->Prop} {s:Shared} {Q:Int->Shared->Prop} (h:Q 4238894112 { s with toks:=s.toks+1 }):wpAny (model prog w) A (pyHash .none) Q E s:=by
 have hT:s.TypeIs Value.none "NoneType":=rfl
 unfold pyHash
 have hv:[Value.none].any Value.onHeap=false:=rfl
 refine wpAny_bind ?_
 rw [cRoomFor,if_neg (by rw [hv];exact Bool.false_ne_true)];refine wpAny_pure ?_
 refine wpAny_bind (wpAny_specialOf hT PySem.F.slot_NoneType_hash.lookup ?_)
 show wpAny _ _ (if (some (Value.builtin "NoneType.__hash__") == some Value.none)=true then _ else _) Q E s
 rw [if_neg (by rw [beq_builtin_none];exact Bool.false_ne_true)]
 refine wpAny_bind (wpAny_specialOf hT PySem.F.slot_NoneType_hash.lookup ?_)
 show wpAny _ _ (callSpecialIfBoundUnlessNone? Value.none "__hash__" _ >>= _) Q E s
 refine wpAny_bind (wpAny_callSpecialIfBoundUnlessNone?_slot hT PySem.F.slot_NoneType_hash
   (wpAny_call_entry PySem.F.slot_NoneType_hash hT PySem.F.entry_NoneType_hash
     (show wpAny _ _ (do ret (← mkInt 4238894112)) _ _ s from wpAny_ret_mkInt ?_) (PySem.F.args_NoneType_hash_1 _)))
 show wpAny _ _ (if (decide (-(2:Int) ^ 63 <= 4238894112) && decide ((4238894112:Int) < 2 ^ 63))=true then _ else _) Q E _
 rw [if_pos (by decide)]
 exact wpAny_pure h
def optIs:Option Key->Value->Bool
 | none,.none=>true
 | none,_=>false
 | some k,v=>keyIs k v
theorem optIs_none {v:Value} (h:optIs none v=true):v=.none:=by
 cases v<;>first | rfl | cases h
def optKind (prog:Program) (w:World):PySem.KeyKind prog w (Option Key) where
 is:=optIs
 hash:=λk=>match k with
   | none=>4238894112
   | some k=>keyH w k
 inj:=λv a b ha hb=>by
   cases a with
   | none =>
     cases optIs_none ha
     cases b with
     | none=>rfl
     | some k=>rcases keyIs_shape (show keyIs k Value.none=true from hb) with ⟨i,t,_,e⟩ | ⟨x,t,_,e⟩<;>cases e
   | some k =>
     cases b with
     | none =>
       cases optIs_none hb
       rcases keyIs_shape (show keyIs k Value.none=true from ha) with ⟨i,t,_,e⟩ | ⟨x,t,_,e⟩<;>cases e
     | some k'=>rw [(mixKind prog w).inj v k k' ha hb]
 byValue:=λk v h=>by
   cases k with
   | none=>cases optIs_none h;rfl
   | some k=>exact (mixKind prog w).byValue k v h
 pyHash:=λ{A E s k v Q} hv h=>by
   cases k with
   | none=>cases optIs_none hv;exact pyHash_none h
   | some k=>exact (mixKind prog w).pyHash (k:=k) hv h
 eqBool:=λ{A E s a b u v Q} hu hv h=>by
   cases a with
   | none =>
     cases optIs_none hu
     cases b with
     | none=>cases optIs_none hv;exact SeqAt.EqAt.same Value.none _ _ _ _ h
     | some k =>
       rcases keyIs_shape (show keyIs k v=true from hv) with ⟨i,t,rfl,rfl⟩ | ⟨x,t,rfl,rfl⟩
       · exact SeqAt.EqAt.none_int i t _ _ _ _ h
       · exact SeqAt.EqAt.none_str x t _ _ _ _ h
   | some k =>
     cases b with
     | none =>
       cases optIs_none hv
       rcases keyIs_shape (show keyIs k u=true from hu) with ⟨i,t,rfl,rfl⟩ | ⟨x,t,rfl,rfl⟩
       · exact SeqAt.EqAt.int_none i t _ _ _ _ h
       · exact SeqAt.EqAt.str_none x t _ _ _ _ h
     | some k' =>
       refine (mixKind prog w).eqBool (a:=k) (b:=k') hu hv ?_
       have e:decide (some k=some k')=decide (k=k'):=by
         rw [decide_eq_decide];exact ⟨λz=>Option.some.inj z,λz=>by rw [z]⟩
       rw [← e];exact h
 «strs»:=λk x t v h=>by
   cases k with
   | none=>cases h
   | some k=>exact (mixKind prog w).strs k x t v h
theorem opt_pairs {P:Program} {w:World}:∀ {es:List DictEntry} {vs:List (Key × Value)},Pairs (mixKind P w) es vs->Pairs (optKind P w) es (vs.map λq=>(some q.1,q.2))
 | _,_,.nil=>.nil
 | _,_,.cons a b t=>.cons a b (opt_pairs t)
theorem opt_dict {P:Program} {w:World} {h:Heap} {a:Addr} {vs:List (Key × Value)} (d:h.DictOf (mixKind P w) a vs):h.DictOf (optKind P w) a (vs.map λq=>(some q.1,q.2)):=by
 obtain ⟨o,es,ep,h1,h2,h3,h4,h5,h6⟩:=d
 refine ⟨o,es,ep,h1,h2,h3,λe he=>?_,opt_pairs h5,?_⟩
 · obtain ⟨k,a,b⟩:=h4 e he
   exact ⟨some k,a,b⟩
 · rw [List.map_map]
   have:((λq:Option Key × Value=>q.1) ∘ λq:Key × Value=>(some q.1,q.2))=some ∘ (λq:Key × Value=>q.1):=rfl
   rw [this,← List.map_map]
   exact List.Pairwise.map _ (λa b n z=>n (Option.some.inj z)) h6
theorem opt_at:∀ (vs:List (Key × Value)),valueAt (vs.map λq=>(some q.1,q.2)) (none:Option Key)=none
 | []=>rfl
 | q :: vs=>by
   have:=opt_at vs
   unfold valueAt at this ⊢
   rw [List.map_cons,List.find?_cons]
   have e:decide (((some q.1,q.2):Option Key × Value).1=none)=false:=rfl
   rw [e]
   exact this
def tDPop2N (td ty tx:TE):TE:=λσ H Q=>td σ H λx H1=>∃ a,x=.ref a/\IsD H1 a/\ty σ H1 λy H2=>tx σ H2 λz H3=>∃ kvs,H3 a=some (.dK kvs) /\
 ((∃ k,y=kV k/\(∀ v,valV kvs k=some v->Q v (upd H3 a (.dK (dropK kvs k))))/\(valV kvs k=none->Q z H3))\/(y=.non/\Q z H3))
theorem pe_dpop2N {X:Cx} {o e f:Expr} {apos cpos:Pos} {td ty tx:TE} (ho:PE X o td) (he:PE X e ty) (hf:PE X f tx) (m:M2 X o "pop" apos e f cpos):PE X (.Call (.Attribute o "pop" apos) [e,f] [] cpos) (tDPop2N td ty tx):=by
 intro pins s σ H Q I h
 refine wpAny_Call_method m.base m.few m.line PySem.F.plainAttrs_dict PySem.F.slot_dict_pop PySem.F.type_dict_pop (thn (ho pins s σ H _ I h) λu s1 ⟨x,H1,I1,rx,a,ex,d,q1⟩=>?_)
 subst ex
 obtain rfl:u=Value.ref a:=rx
 obtain ⟨t1,t2,_⟩:=isD_at I1 d
 refine ⟨t1,t2,?_⟩
 rw [m.trees]
 refine Calls.callWith_builtin rfl (Calls.evalArgs_plain (Calls.spliced_cons (thn (he pins s1 σ H1 _ I1 q1) λiv s2 ⟨y,H2,I2,ry,q2⟩ =>
   Calls.spliced_cons (thn (hf pins s2 σ H2 _ I2 q2) λfv s3 ⟨z,H3,I3,rz,kvs,ea,q3⟩=>Calls.spliced_nil ?_))))
 rcases q3 with ⟨k,ey,q3,q4⟩ | ⟨ey,q4⟩
 · subst ey
   cases l:valV kvs k with
   | some v=>exact d_pop I3 ea ry l (.inr ⟨fv,rfl⟩) λw' s4 I4 rw'=>⟨v,_,I4,rw',q3 v l⟩
   | none=>exact d_popD I3 ea ry l λs4 I4=>⟨z,H3,I4,rz,q4 l⟩
 · subst ey
   cases ry
   obtain ⟨zz,hd,vs,rel,dd⟩:=dk_of I3.hok ea
   exact call_meetsIn PySem.F.slot_dict_pop dd.typeIs PySem.F.entry_dict_pop (PySem.F.args_dict_pop_3 _ _ _) (meets_dict_pop_default (optKind X.prog X.w) a (k:=none) (key:=Value.none) rfl hd rfl fv) ⟨_,opt_dict dd,opt_at vs,⟨z,H3,I3.tok _,rz,q4⟩⟩
end L2

namespace L2
open PySem PySem.Spec PyProof.Rows
theorem own_of {x hd rl:Addr} {l:Bool->Addr} {c:Addr} (hc:c=x\/c=hd\/c=rl\/∃ b,c=l b):Sto.own x hd rl l c:=by
 rcases hc with h | h | h | ⟨b',h⟩
 · exact .inl h
 · exact .inr (.inl h)
 · exact .inr (.inr (.inl h))
 · cases b'
   · exact .inr (.inr (.inr (.inl h)))
   · exact .inr (.inr (.inr (.inr h)))
theorem own_l {x hd rl:Addr} {l:Bool->Addr} (b:Bool):Sto.own x hd rl l (l b):=own_of (.inr (.inr (.inr ⟨b,rfl⟩)))
theorem own_hd {x hd rl:Addr} {l:Bool->Addr}:Sto.own x hd rl l hd:=.inr (.inl rfl)
theorem Sto.kp {w:World} {C:Addr} {H H':Hp} {x hd rl:Addr} {l:Bool->Addr} {M:List (PyData × V)} {r:Bool->List (PyData × V)} {xs:List Addr} (S:Sto w C H x hd rl l M r) (k:Kp xs H H') (h:∀ c∈xs,¬ Sto.own x hd rl l c) (ht:∀ c∈xs,∀ vs,H c≠some (.tup vs)):Sto w C H' x hd rl l M r :=
 S.keep (λc o hc e=>k c o (λz=>h c z (own_of hc)) e) λc vs e=>k c _ (λz=>ht c z vs e) e
theorem Kp.one {H:Hp} {c:Addr} {o:HO}:Kp [c] H (upd H c o):=λb u n e=>by rw [upd_ne λz=>n (List.mem_singleton.mpr z)];exact e
theorem fld {K:PySem.W.Frag} {H:Hp} {a C dx:Addr} {fs:List (Str × V)} {v:V} {f:Str} {Q:V->Prop} (hx:H a=some (.ins C dx fs)) (c:Cls K C) (na:NoAttr K C f) (l:fs.lookup f=some v) (q:Q v) :
   ∃ a' C' dx' fs' v',V.ref a=.ref a'/\H a'=some (.ins C' dx' fs')/\Cls K C'/\NoAttr K C' f/\fs'.lookup f=some v'/\Q v':=⟨a,C,dx,fs,v,rfl,hx,c,na,l,q⟩
structure RP where
 s:Int
 R:Int
 e:Bool
structure RP.Ok (p:RP):Prop where
 s0:0 < p.s
 s8:p.s <= 8
 sR:0 < p.s * p.R
structure SA where
 x:Addr
 hd:Addr
 rl:Addr
 l:Bool->Addr
abbrev SA.At (w:World) (C:Addr) (H:Hp) (z:SA) (M:List (PyData × V)) (r:Bool->List (PyData × V)):Prop:=Sto w C H z.x z.hd z.rl z.l M r
def SA.own (z:SA) (c:Addr):Prop:=Sto.own z.x z.hd z.rl z.l c
def rF (st:Addr) (b:Bool) (w0 w1 w2:Str) (p:RP):List (Str × V) :=
 putF "counter_first" (.bl p.e) (putF "rounds" (.int p.R) (putF "size" (.int p.s) (putF "fetched" (.str w2) (putF "laid" (.str w1) (putF "word" (.str w0) (putF "side" (.int (sdI b)) (putF "shelf" (.ref st) [])))))))
section
variable {st:Addr} {b:Bool} {w0 w1 w2:Str} {p:RP}
theorem rF_shelf:(rF st b w0 w1 w2 p).lookup ("shelf":Str)=some (.ref st):=by unfold rF;repeat (first | rw [lookup_putF,if_pos rfl] | rw [lookup_putF,if_neg (by decide +kernel)]);try rfl
theorem rF_side:(rF st b w0 w1 w2 p).lookup ("side":Str)=some (.int (sdI b)):=by unfold rF;repeat (first | rw [lookup_putF,if_pos rfl] | rw [lookup_putF,if_neg (by decide +kernel)]);try rfl
theorem rF_word:(rF st b w0 w1 w2 p).lookup ("word":Str)=some (.str w0):=by unfold rF;repeat (first | rw [lookup_putF,if_pos rfl] | rw [lookup_putF,if_neg (by decide +kernel)]);try rfl
theorem rF_laid:(rF st b w0 w1 w2 p).lookup ("laid":Str)=some (.str w1):=by unfold rF;repeat (first | rw [lookup_putF,if_pos rfl] | rw [lookup_putF,if_neg (by decide +kernel)]);try rfl
theorem rF_fetched:(rF st b w0 w1 w2 p).lookup ("fetched":Str)=some (.str w2):=by unfold rF;repeat (first | rw [lookup_putF,if_pos rfl] | rw [lookup_putF,if_neg (by decide +kernel)]);try rfl
theorem rF_size:(rF st b w0 w1 w2 p).lookup ("size":Str)=some (.int p.s):=by unfold rF;repeat (first | rw [lookup_putF,if_pos rfl] | rw [lookup_putF,if_neg (by decide +kernel)]);try rfl
theorem rF_rounds:(rF st b w0 w1 w2 p).lookup ("rounds":Str)=some (.int p.R):=by unfold rF;repeat (first | rw [lookup_putF,if_pos rfl] | rw [lookup_putF,if_neg (by decide +kernel)]);try rfl
theorem rF_first:(rF st b w0 w1 w2 p).lookup ("counter_first":Str)=some (.bl p.e):=by unfold rF;repeat (first | rw [lookup_putF,if_pos rfl] | rw [lookup_putF,if_neg (by decide +kernel)]);try rfl
theorem rF_filled:(rF st b w0 w1 w2 p).lookup ("filled":Str)=none:=by unfold rF;repeat (first | rw [lookup_putF,if_pos rfl] | rw [lookup_putF,if_neg (by decide +kernel)]);try rfl
theorem rF_full:(rF st b w0 w1 w2 p).lookup ("is_full":Str)=none:=by unfold rF;repeat (first | rw [lookup_putF,if_pos rfl] | rw [lookup_putF,if_neg (by decide +kernel)]);try rfl
theorem rF_place:(rF st b w0 w1 w2 p).lookup ("place_at":Str)=none:=by unfold rF;repeat (first | rw [lookup_putF,if_pos rfl] | rw [lookup_putF,if_neg (by decide +kernel)]);try rfl
theorem rF_further:(rF st b w0 w1 w2 p).lookup ("write_further":Str)=none:=by unfold rF;repeat (first | rw [lookup_putF,if_pos rfl] | rw [lookup_putF,if_neg (by decide +kernel)]);try rfl
theorem rF_lay:(rF st b w0 w1 w2 p).lookup ("lay":Str)=none:=by unfold rF;repeat (first | rw [lookup_putF,if_pos rfl] | rw [lookup_putF,if_neg (by decide +kernel)]);try rfl
theorem rF_fetch:(rF st b w0 w1 w2 p).lookup ("fetch":Str)=none:=by unfold rF;repeat (first | rw [lookup_putF,if_pos rfl] | rw [lookup_putF,if_neg (by decide +kernel)]);try rfl
end
def Rn (CR:Addr) (H:Hp) (q st:Addr) (b:Bool) (w0 w1 w2:Str) (p:RP):Prop:=∃ dx,H q=some (.ins CR dx (rF st b w0 w1 w2 p))
def gK (ns:List Int):List (Key × V):=ns.map λi=>(.inl i,.bl true)
theorem gK_val (i:Int):∀ ns:List Int,valV (gK ns) (.inl i)=if ns.contains i then some (.bl true) else none
 | []=>rfl
 | n :: ns=>by
   by_cases h:n=i
   · subst h
     show valV ((Sum.inl n,V.bl true) :: gK ns) _=_
     rw [valV_pos rfl,List.contains_cons];simp
   · show valV ((Sum.inl n,V.bl true) :: gK ns) _=_
     rw [valV_neg (λz=>h (Sum.inl.inj z)),gK_val i ns,List.contains_cons]
     have:(i == n)=false:=by simpa using λz=>h z.symm
     rw [this];rfl
theorem gK_put (i:Int) (ns:List Int) (h:ns.contains i=false):putK (gK ns) (.inl i) (.bl true)=gK (ns++[i]):=by
 unfold putK
 rw [valV_any,gK_val,h]
 simp [gK]
theorem gK_put' (i:Int) (ns:List Int) (h:ns.contains i=true):putK (gK ns) (.inl i) (.bl true)=gK ns:=by
 unfold putK
 rw [valV_any,gK_val,h]
 simp only [if_true,Option.isSome_some]
 unfold gK
 rw [List.map_map]
 refine List.map_congr_left λx _=>?_
 show (if Sum.inl x=Sum.inl i then _ else _)=_
 split<;>rfl
theorem gK_drop (i:Int):∀ ns:List Int,dropK (gK ns) (.inl i)=gK (ns.filter (λn=>decide (n≠i)))
 | []=>rfl
 | n :: ns=>by
   have ih:=gK_drop i ns
   unfold dropK gK at ih ⊢
   rw [List.map_cons,List.filter_cons,List.filter_cons,ih]
   have e:decide (((Sum.inl n,V.bl true):Key × V).1≠Sum.inl i)=decide (n≠i):=by
     by_cases h:n=i
     · subst h;simp
     · have:(Sum.inl n:Key)≠Sum.inl i:=λz=>h (Sum.inl.inj z)
       simp [h,this]
   rw [e]
   split<;>rfl
theorem gK_len (ns:List Int):(gK ns).length=ns.length:=by unfold gK;rw [List.length_map]
def gNext (ns:List Int) (i:Int):List Int:=if ns.contains i then ns else ns++[i]
theorem gK_next (i:Int) (ns:List Int):putK (gK ns) (.inl i) (.bl true)=gK (gNext ns i):=by
 unfold gNext
 cases h:ns.contains i with
 | true=>rw [gK_put' i ns h];rfl
 | false=>rw [gK_put i ns h];rfl
structure HA where
 h:Addr
 ra:Addr
 rb:Addr
 gd:Addr
def hF (z:HA) (n:Int):List (Str × V):=putF "going" (.ref z.gd) (putF "names" (.int n) (putF "answers" (.ref z.rb) (putF "asks" (.ref z.ra) [])))
section
variable {z:HA} {n:Int}
theorem hF_asks:(hF z n).lookup ("asks":Str)=some (.ref z.ra):=by unfold hF;repeat (first | rw [lookup_putF,if_pos rfl] | rw [lookup_putF,if_neg (by decide +kernel)]);try rfl
theorem hF_answers:(hF z n).lookup ("answers":Str)=some (.ref z.rb):=by unfold hF;repeat (first | rw [lookup_putF,if_pos rfl] | rw [lookup_putF,if_neg (by decide +kernel)]);try rfl
theorem hF_names:(hF z n).lookup ("names":Str)=some (.int n):=by unfold hF;repeat (first | rw [lookup_putF,if_pos rfl] | rw [lookup_putF,if_neg (by decide +kernel)]);try rfl
theorem hF_going:(hF z n).lookup ("going":Str)=some (.ref z.gd):=by unfold hF;repeat (first | rw [lookup_putF,if_pos rfl] | rw [lookup_putF,if_neg (by decide +kernel)]);try rfl
theorem hF_least:(hF z n).lookup ("least_free":Str)=none:=by unfold hF;repeat (first | rw [lookup_putF,if_pos rfl] | rw [lookup_putF,if_neg (by decide +kernel)]);try rfl
theorem hF_check:(hF z n).lookup ("check_ask":Str)=none:=by unfold hF;repeat (first | rw [lookup_putF,if_pos rfl] | rw [lookup_putF,if_neg (by decide +kernel)]);try rfl
theorem hF_ask:(hF z n).lookup ("ask":Str)=none:=by unfold hF;repeat (first | rw [lookup_putF,if_pos rfl] | rw [lookup_putF,if_neg (by decide +kernel)]);try rfl
theorem hF_collect:(hF z n).lookup ("collect":Str)=none:=by unfold hF;repeat (first | rw [lookup_putF,if_pos rfl] | rw [lookup_putF,if_neg (by decide +kernel)]);try rfl
theorem hF_waits:(hF z n).lookup ("something_waits":Str)=none:=by unfold hF;repeat (first | rw [lookup_putF,if_pos rfl] | rw [lookup_putF,if_neg (by decide +kernel)]);try rfl
end
structure Hn (CH CR:Addr) (H:Hp) (z:HA) (st:Addr) (p:RP) (n:Int) (aw:List Int):Prop where
 ob:∃ dx,H z.h=some (.ins CH dx (hF z n))
 ra:Rn CR H z.ra st false "ask" "asked" "taken" p
 rb:Rn CR H z.rb st false "answer" "answered" "handed" p
 go:H z.gd=some (.dK (gK aw))
def HA.own (z:HA) (c:Addr):Prop:=c=z.h\/c=z.ra\/c=z.rb\/c=z.gd
structure TA' where
 h:Addr
 ra:Addr
 rb:Addr
 gd:Addr
def tF (z:TA'):List (Str × V):=putF "doing" (.ref z.gd) (putF "answers" (.ref z.rb) (putF "asks" (.ref z.ra) []))
section
variable {z:TA'}
theorem tF_asks:(tF z).lookup ("asks":Str)=some (.ref z.ra):=by unfold tF;repeat (first | rw [lookup_putF,if_pos rfl] | rw [lookup_putF,if_neg (by decide +kernel)]);try rfl
theorem tF_answers:(tF z).lookup ("answers":Str)=some (.ref z.rb):=by unfold tF;repeat (first | rw [lookup_putF,if_pos rfl] | rw [lookup_putF,if_neg (by decide +kernel)]);try rfl
theorem tF_doing:(tF z).lookup ("doing":Str)=some (.ref z.gd):=by unfold tF;repeat (first | rw [lookup_putF,if_pos rfl] | rw [lookup_putF,if_neg (by decide +kernel)]);try rfl
theorem tF_take:(tF z).lookup ("take":Str)=none:=by unfold tF;repeat (first | rw [lookup_putF,if_pos rfl] | rw [lookup_putF,if_neg (by decide +kernel)]);try rfl
theorem tF_check:(tF z).lookup ("check_answer":Str)=none:=by unfold tF;repeat (first | rw [lookup_putF,if_pos rfl] | rw [lookup_putF,if_neg (by decide +kernel)]);try rfl
theorem tF_answer:(tF z).lookup ("answer":Str)=none:=by unfold tF;repeat (first | rw [lookup_putF,if_pos rfl] | rw [lookup_putF,if_neg (by decide +kernel)]);try rfl
theorem tF_waits:(tF z).lookup ("something_waits":Str)=none:=by unfold tF;repeat (first | rw [lookup_putF,if_pos rfl] | rw [lookup_putF,if_neg (by decide +kernel)]);try rfl
end
structure Tn (CT CR:Addr) (H:Hp) (z:TA') (st:Addr) (p:RP) (ts:List Int):Prop where
 ob:∃ dx,H z.h=some (.ins CT dx (tF z))
 ra:Rn CR H z.ra st true "ask" "asked" "taken" p
 rb:Rn CR H z.rb st true "answer" "answered" "handed" p
 go:H z.gd=some (.dK (gK ts))
def TA'.own (z:TA') (c:Addr):Prop:=c=z.h\/c=z.ra\/c=z.rb\/c=z.gd
section
variable {CH CT CR:Addr} {H H':Hp} {st:Addr} {p:RP} {n:Int} {aw:List Int}
theorem Rn.keep {q:Addr} {b:Bool} {w0 w1 w2:Str} (r:Rn CR H q st b w0 w1 w2 p) (k:∀ o,H q=some o->H' q=some o):Rn CR H' q st b w0 w1 w2 p:=by
 obtain ⟨dx,hx⟩:=r
 exact ⟨dx,k _ hx⟩
theorem Hn.keep {z:HA} (B:Hn CH CR H z st p n aw) (k:∀ c o,z.own c->H c=some o->H' c=some o):Hn CH CR H' z st p n aw:=by
 obtain ⟨dx,hx⟩:=B.ob
 exact ⟨⟨dx,k _ _ (.inl rfl) hx⟩,B.ra.keep λo=>k _ o (.inr (.inl rfl)),B.rb.keep λo=>k _ o (.inr (.inr (.inl rfl))),k _ _ (.inr (.inr (.inr rfl))) B.go⟩
theorem Hn.same {z:HA} (B:Hn CH CR H z st p n aw) (q:Same H H'):Hn CH CR H' z st p n aw:=B.keep λc o _=>q c o
theorem Hn.there {z:HA} (B:Hn CH CR H z st p n aw) {c:Addr} (hc:z.own c):∃ o,H c=some o/\((∃ C dx fs,o=.ins C dx fs)\/∃ kvs,o=.dK kvs):=by
 rcases hc with rfl | rfl | rfl | rfl
 · obtain ⟨dx,hx⟩:=B.ob;exact ⟨_,hx,.inl ⟨_,_,_,rfl⟩⟩
 · obtain ⟨dx,hx⟩:=B.ra;exact ⟨_,hx,.inl ⟨_,_,_,rfl⟩⟩
 · obtain ⟨dx,hx⟩:=B.rb;exact ⟨_,hx,.inl ⟨_,_,_,rfl⟩⟩
 · exact ⟨_,B.go,.inr ⟨_,rfl⟩⟩
theorem Hn.lists {z:HA} {xs:List Addr} (B:Hn CH CR H z st p n aw) (k:Kp xs H H') (hx:∀ c∈xs,(∃ ys,H c=some (.lst ys))\/∃ ee:List DictEntry × Nat,H c=some (DObj c ee.1 ee.2)):Hn CH CR H' z st p n aw :=
 B.keep λc o hc q=>k c o (λm=>by
   obtain ⟨o',e,s⟩:=B.there hc
   rcases hx c m with ⟨ys,e'⟩ | ⟨ee,e'⟩
   · rw [e] at e';cases e'
     rcases s with ⟨_,_,_,s⟩ | ⟨_,s⟩<;>cases s
   · rw [e] at e';cases e'
     rcases s with ⟨_,_,_,s⟩ | ⟨_,s⟩<;>cases s) q
theorem Tn.keep {z:TA'} (B:Tn CT CR H z st p aw) (k:∀ c o,z.own c->H c=some o->H' c=some o):Tn CT CR H' z st p aw:=by
 obtain ⟨dx,hx⟩:=B.ob
 exact ⟨⟨dx,k _ _ (.inl rfl) hx⟩,B.ra.keep λo=>k _ o (.inr (.inl rfl)),B.rb.keep λo=>k _ o (.inr (.inr (.inl rfl))),k _ _ (.inr (.inr (.inr rfl))) B.go⟩
theorem Tn.same {z:TA'} (B:Tn CT CR H z st p aw) (q:Same H H'):Tn CT CR H' z st p aw:=B.keep λc o _=>q c o
theorem Tn.there {z:TA'} (B:Tn CT CR H z st p aw) {c:Addr} (hc:z.own c):∃ o,H c=some o/\((∃ C dx fs,o=.ins C dx fs)\/∃ kvs,o=.dK kvs):=by
 rcases hc with rfl | rfl | rfl | rfl
 · obtain ⟨dx,hx⟩:=B.ob;exact ⟨_,hx,.inl ⟨_,_,_,rfl⟩⟩
 · obtain ⟨dx,hx⟩:=B.ra;exact ⟨_,hx,.inl ⟨_,_,_,rfl⟩⟩
 · obtain ⟨dx,hx⟩:=B.rb;exact ⟨_,hx,.inl ⟨_,_,_,rfl⟩⟩
 · exact ⟨_,B.go,.inr ⟨_,rfl⟩⟩
theorem Tn.lists {z:TA'} {xs:List Addr} (B:Tn CT CR H z st p aw) (k:Kp xs H H') (hx:∀ c∈xs,(∃ ys,H c=some (.lst ys))\/∃ ee:List DictEntry × Nat,H c=some (DObj c ee.1 ee.2)):Tn CT CR H' z st p aw :=
 B.keep λc o hc q=>k c o (λm=>by
   obtain ⟨o',e,s⟩:=B.there hc
   rcases hx c m with ⟨ys,e'⟩ | ⟨ee,e'⟩
   · rw [e] at e';cases e'
     rcases s with ⟨_,_,_,s⟩ | ⟨_,s⟩<;>cases s
   · rw [e] at e';cases e'
     rcases s with ⟨_,_,_,s⟩ | ⟨_,s⟩<;>cases s) q
end
def least (n:Nat) (aw:List Int):Option Int:=(List.range n).map (λ(k:Nat)=>(k:Int)) |>.find? λk=>!aw.contains k
theorem least_some {n i:Nat} {aw:List Int} (hi:i < n) (h:aw.contains (i:Int)=false) (hno:∀ j < i,aw.contains (j:Int)=true):least n aw=some (i:Int):=by
 unfold least
 rw [List.find?_eq_some_iff_getElem]
 refine ⟨by rw [h];rfl,i,by simpa using hi,by simp,λj hj=>?_⟩
 simp only [List.getElem_map,List.getElem_range]
 rw [hno j hj];rfl
theorem least_none {n:Nat} {aw:List Int} (hno:∀ j < n,aw.contains (j:Int)=true):least n aw=none:=by
 unfold least
 rw [List.find?_eq_none]
 intro x hx
 obtain ⟨j,hj,rfl⟩:=List.mem_map.mp hx
 rw [hno j (List.mem_range.mp hj)];decide
theorem least_free {n:Nat} {aw:List Int} {k:Int} (h:least n aw=some k):aw.contains k=false:=by
 unfold least at h
 have:=List.find?_some h
 simpa using this
theorem least_lt {n:Nat} {aw:List Int} {k:Int} (h:least n aw=some k):0 <= k/\k < n:=by
 unfold least at h
 have:=List.mem_of_find?_eq_some h
 obtain ⟨j,hj,rfl⟩:=List.mem_map.mp this
 have:=List.mem_range.mp hj
 omega
theorem inV_str (i:Str):∀ ns:List Str,inV (.str i) (ns.map V.str)=ns.contains i
 | []=>rfl
 | n :: ns=>by
   have ih:=inV_str i ns
   unfold inV at ih ⊢
   rw [List.map_cons,List.any_cons,ih,List.contains_cons]
   congr 1
   show eqV (.str n) (.str i)=(i == n)
   simp only [eqV]
   rw [Bool.eq_iff_iff,beq_iff_eq,beq_iff_eq]
   exact eq_comm
theorem strs_flat:∀ ns:List Str,(ns.map V.str).all flatV=true
 | []=>rfl
 | n :: ns=>by rw [List.map_cons,List.all_cons,strs_flat ns];rfl
theorem setR_twice {α:Type} {r:Bool->α} {b:Bool} {u v:α}:setR (setR r b u) b v=setR r b v:=by
 funext c;unfold setR;split<;>rfl
theorem kS {H:Hp} {t:Str} (h:PyData.strOk t=true):KeyV H (.str t) (.str t):=⟨h,by show 0 <= 8;decide,rfl,.inl ⟨_,rfl⟩⟩
theorem kT {H:Hp} {a:Addr} {t:Str} {i:Int} (h:PyData.strOk t=true) (ha:H a=some (.tup [.str t,.int i])):KeyV H (.tuple [.str t,.int i]) (.ref a):=⟨by
 show (PyData.strOk _ && (true && true))=true
 rw [h];rfl,by show 1 <= 8;decide,⟨a,_,rfl,ha,⟨_,_,rfl,rfl,_,_,rfl,rfl,rfl⟩⟩,.inr ⟨_,rfl⟩⟩
theorem up1 {H:Hp} {a b:Addr} {o:HO} (h:upd H a o b=none):b≠a/\H b=none:=by
 have n:b≠a:=λz=>by rw [z,upd_same] at h;cases h
 exact ⟨n,by rw [upd_ne n] at h;exact h⟩
theorem none_back {H H':Hp} {c:Addr} (e:Same H H') (h:H' c=none):H c=none:=by
 cases z:H c with
 | none=>rfl
 | some o=>rw [e c o z] at h;cases h
theorem none_kp {H H':Hp} {xs:List Addr} {c:Addr} (e:Kp xs H H') (h:H' c=none) (n:∀ x∈xs,H' x≠none):H c=none:=by
 cases z:H c with
 | none=>rfl
 | some o=>rw [e c o (λm=>n c m h) z] at h;cases h
def layRow (p:RP) (w0 w1:Str) (A:Int) (t:V):List (PyData × V) :=
 if p.e then [(.str w1,.int ((A+1) % (p.s * p.R))),(.tuple [.str w0,.int (A % p.s)],t)] else [(.tuple [.str w0,.int (A % p.s)],t),(.str w1,.int ((A+1) % (p.s * p.R)))]
theorem Sto.noT {w:World} {C:Addr} {H:Hp} {x hd rl:Addr} {l:Bool->Addr} {M:List (PyData × V)} {r:Bool->List (PyData × V)} (S:Sto w C H x hd rl l M r) {b:Bool} {c:Addr} {vs:List V} (h:H c=some (.tup vs)):c ∉ [l b]:=λz=>by
 obtain ⟨ts,e,_⟩:=S.rw b
 rw [List.mem_singleton.mp z,e] at h;cases h
theorem Sto.noI {w:World} {C:Addr} {H:Hp} {x hd rl:Addr} {l:Bool->Addr} {M:List (PyData × V)} {r:Bool->List (PyData × V)} (S:Sto w C H x hd rl l M r) {b:Bool} {c C' dx:Addr} {fs:List (Str × V)} (h:H c=some (.ins C' dx fs)):c ∉ [l b]:=λz=>by
 obtain ⟨ts,e,_⟩:=S.rw b
 rw [List.mem_singleton.mp z,e] at h;cases h
theorem Sto.noD {w:World} {C:Addr} {H:Hp} {x hd rl:Addr} {l:Bool->Addr} {M:List (PyData × V)} {r:Bool->List (PyData × V)} (S:Sto w C H x hd rl l M r) {c:Addr} {kvs:List (Key × V)} (h:H c=some (.dK kvs)):¬ Sto.own x hd rl l c:=λz=>by
 rcases z with rfl | rfl | rfl | rfl | rfl
 · obtain ⟨dx,e⟩:=S.ob;rw [e] at h;cases h
 · obtain ⟨es,e⟩:=S.me.there;rw [e] at h;cases h
 · rw [S.ro] at h;cases h
 · obtain ⟨ts,e,_⟩:=S.rw false;rw [e] at h;cases h
 · obtain ⟨ts,e,_⟩:=S.rw true;rw [e] at h;cases h
theorem passX {X:Cx}:Passes (CXv X.prog X.w) X E0:=λ_ _ _ _ _ _ _ h=>by
 obtain ⟨_,_,_,_,_,_,_,_,_,_,_,_,_,_,q⟩:=h
 exact q.elim
theorem fldE {K:PySem.W.Frag} {H:Hp} {a C:Addr} {fs:List (Str × V)} {v:V} {f:Str} {Q:V->Prop} (hx:∃ dx,H a=some (.ins C dx fs)) (c:Cls K C) (na:NoAttr K C f) (l:fs.lookup f=some v) (q:Q v) :
   ∃ a' C' dx' fs' v',V.ref a=.ref a'/\H a'=some (.ins C' dx' fs')/\Cls K C'/\NoAttr K C' f/\fs'.lookup f=some v'/\Q v':=let ⟨dx,hx⟩:=hx;⟨a,C,dx,fs,v,rfl,hx,c,na,l,q⟩
theorem mthE {H:Hp} {a C:Addr} {fs:List (Str × V)} {m:Str} {q:Prop} (hx:∃ dx,H a=some (.ins C dx fs)) (l:fs.lookup m=none) (h:q) :
   ∃ a' dx' fs',V.ref a=.ref a'/\H a'=some (.ins C dx' fs')/\fs'.lookup m=none/\q:=let ⟨dx,hx⟩:=hx;⟨a,dx,fs,rfl,hx,l,h⟩
structure HB (w:World) (CH CR CS:Addr) (H:Hp) (z:HA) (sa:SA) (p:RP) (n:Int) (aw:List Int) (M:List (PyData × V)) (r:Bool->List (PyData × V)):Prop where
 hn:Hn CH CR H z sa.x p n aw
 so:sa.At w CS H M r
def HB.own (z:HA) (sa:SA) (c:Addr):Prop:=sa.own c\/z.own c
section
variable {w:World} {CH CR CS:Addr} {H H':Hp} {z:HA} {sa:SA} {p:RP} {n:Int} {aw:List Int} {M:List (PyData × V)} {r:Bool->List (PyData × V)}
theorem HB.keep (B:HB w CH CR CS H z sa p n aw M r) (k:∀ c o,HB.own z sa c->H c=some o->H' c=some o) (ht:∀ b vs,H b=some (.tup vs)->H' b=some (.tup vs)):HB w CH CR CS H' z sa p n aw M r :=
 ⟨B.hn.keep λc o hc=>k c o (.inr hc),B.so.keep (λc o hc=>k c o (.inl (own_of hc))) ht⟩
theorem HB.same (B:HB w CH CR CS H z sa p n aw M r) (q:Same H H'):HB w CH CR CS H' z sa p n aw M r:=B.keep (λc o _=>q c o) λb vs=>q b _
theorem HB.there (B:HB w CH CR CS H z sa p n aw M r) {c:Addr} (hc:HB.own z sa c):∃ o,H c=some o/\∀ vs,o≠.tup vs:=by
 rcases hc with hc | hc
 · exact B.so.there hc
 · obtain ⟨o,e,⟨_,_,_,s⟩ | ⟨_,s⟩⟩:=B.hn.there hc
   · exact ⟨o,e,λvs z=>by rw [z] at s;cases s⟩
   · exact ⟨o,e,λvs z=>by rw [z] at s;cases s⟩
theorem HB.kp {xs:List Addr} (B:HB w CH CR CS H z sa p n aw M r) (k:Kp xs H H') (hx:∀ c∈xs,¬ HB.own z sa c) (ht:∀ c∈xs,∀ vs,H c≠some (.tup vs)):HB w CH CR CS H' z sa p n aw M r :=
 B.keep (λc o hc q=>k c o (λz=>hx c z hc) q) λb vs q=>k b _ (λz=>ht b z vs q) q
end
structure TB (w:World) (CT CR CS:Addr) (H:Hp) (z:TA') (sa:SA) (p:RP) (aw:List Int) (M:List (PyData × V)) (r:Bool->List (PyData × V)):Prop where
 tn:Tn CT CR H z sa.x p aw
 so:sa.At w CS H M r
def TB.own (z:TA') (sa:SA) (c:Addr):Prop:=sa.own c\/z.own c
section
variable {w:World} {CT CR CS:Addr} {H H':Hp} {z:TA'} {sa:SA} {p:RP} {aw:List Int} {M:List (PyData × V)} {r:Bool->List (PyData × V)}
theorem TB.keep (B:TB w CT CR CS H z sa p aw M r) (k:∀ c o,TB.own z sa c->H c=some o->H' c=some o) (ht:∀ b vs,H b=some (.tup vs)->H' b=some (.tup vs)):TB w CT CR CS H' z sa p aw M r :=
 ⟨B.tn.keep λc o hc=>k c o (.inr hc),B.so.keep (λc o hc=>k c o (.inl (own_of hc))) ht⟩
theorem TB.same (B:TB w CT CR CS H z sa p aw M r) (q:Same H H'):TB w CT CR CS H' z sa p aw M r:=B.keep (λc o _=>q c o) λb vs=>q b _
theorem TB.there (B:TB w CT CR CS H z sa p aw M r) {c:Addr} (hc:TB.own z sa c):∃ o,H c=some o/\∀ vs,o≠.tup vs:=by
 rcases hc with hc | hc
 · exact B.so.there hc
 · obtain ⟨o,e,⟨_,_,_,s⟩ | ⟨_,s⟩⟩:=B.tn.there hc
   · exact ⟨o,e,λvs z=>by rw [z] at s;cases s⟩
   · exact ⟨o,e,λvs z=>by rw [z] at s;cases s⟩
theorem TB.kp {xs:List Addr} (B:TB w CT CR CS H z sa p aw M r) (k:Kp xs H H') (hx:∀ c∈xs,¬ TB.own z sa c) (ht:∀ c∈xs,∀ vs,H c≠some (.tup vs)):TB w CT CR CS H' z sa p aw M r :=
 B.keep (λc o hc q=>k c o (λz=>hx c z hc) q) λb vs q=>k b _ (λz=>ht b z vs q) q
end
def RD (H:Hp) (p:PyData × V) (d:PyData):Prop:=∃ x,d=.tuple [p.1,x]/\DV H x p.2
theorem rows_dvs {H:Hp}:∀ {es:List (PyData × V)} {ts:List V} {ds:List PyData},Paired (Wt H) es ts->Paired (RD H) es ds->DVs H ds ts
 | _,_,_,.nil,.nil=>rfl
 | _,_,_,.cons ⟨t,cv,e,ht,hk⟩ r,.cons ⟨x,e',dx⟩ r'=>by
   subst e e'
   exact ⟨_,_,rfl,⟨t,_,rfl,ht,_,_,rfl,hk.2.2.1,_,_,rfl,dx,rfl⟩,rows_dvs r r'⟩
theorem new_hand {H H':Hp} {h dh:Addr} {C:Addr} (nh:H h=none) (ndh:H dh=none) (kp:Kp [h] (upd (upd H dh (.own h)) h (.ins C dh [])) H'):Same H H':=λc o e=>by
 have y1:=ne_of_none e ndh
 have y2:=ne_of_none e nh
 exact kp c o (λz=>y2 (List.mem_singleton.mp z)) (by rw [upd_ne y2,upd_ne y1];exact e)
theorem len0v:([]:List V).length <= sizeLine:=by show 0 <= sizeLine;decide
theorem kx_tt {K:PySem.W.Frag}:PySem.W.kitOne K (.type "tuple") (.type "tuple")=some true:=by rfl
theorem kx_it {K:PySem.W.Frag}:PySem.W.kitOne K (.type "int") (.type "tuple")=some false:=by rfl
end L2

namespace L2
open PySem PySem.Spec PyProof.Rows
inductive Cn where
 | asked | taken | answered | handed | hs | ts
instance:DecidableEq Cn:=λa b=>by
 cases a<;>cases b<;>first | exact isTrue rfl | exact isFalse (λh=>by cases h)
def Cn.key:Cn->Str
 | .asked=>"asked"
 | .taken=>"taken"
 | .answered=>"answered"
 | .handed=>"handed"
 | .hs=>"hand sleeps"
 | .ts=>"heart sleeps"
def gWord:Bool->Str
 | false=>"ask"
 | true=>"answer"
def pk (g:Bool) (i:Int):PyData:=.tuple [.str (gWord g),.int i]
inductive Wr where
 | c (k:Cn) (i:Int)
 | p (g:Bool) (i nm wt:Int)
def Wr.key:Wr->PyData
 | .c k _=>.str k.key
 | .p g i _ _=>pk g i
def Wr.dat:Wr->PyData
 | .c _ i=>.int i
 | .p _ _ nm wt=>.tuple [.int nm,.int wt]
def Wr.Ok:Wr->Prop
 | .c _ _=>True
 | .p _ i nm _=>(0 <= i/\i < 8)/\0 <= nm/\nm < 9
def Wr.cnt (k:Cn):Wr->Option Int
 | .c k' i=>if k'=k then some i else none
 | .p _ _ _ _=>none
def Wr.plc (g:Bool) (i:Int):Wr->Option (Int × Int)
 | .c _ _=>none
 | .p g' i' nm wt=>if g'=g/\i'=i then some (nm,wt) else none
structure Mem where
 c:Cn->Int
 p:Bool->Int->Option (Int × Int)
def Mem.zero:Mem:=⟨λ_=>0,λ_ _=>none⟩
def Mem.put (m:Mem) (x:Wr):Mem:=⟨λk=>(x.cnt k).getD (m.c k),λg i=>(x.plc g i).or (m.p g i)⟩
def rdC (m:Mem) (row:List Wr) (k:Cn):Int:=(row.reverse.findSome? (Wr.cnt k)).getD (m.c k)
def rdP (m:Mem) (row:List Wr) (g:Bool) (i:Int):Option (Int × Int):=(row.reverse.findSome? (Wr.plc g i)).or (m.p g i)
theorem cn_ok (k:Cn):PyData.strOk k.key=true:=by cases k<;>decide +kernel
theorem gw_ok (g:Bool):PyData.strOk (gWord g)=true:=by cases g<;>decide +kernel
theorem cn_inj {k k':Cn} (h:k.key=k'.key):k=k':=by
 cases k<;>cases k'<;>first | rfl | exact absurd h (by decide +kernel)
theorem gw_inj {g g':Bool} (h:gWord g=gWord g'):g=g':=by
 cases g<;>cases g'<;>first | rfl | exact absurd h (by decide +kernel)
theorem pk_kd (g:Bool) (i:Int):MX.kd (pk g i)=true:=by
 show (PyData.strOk (gWord g) && (true && true))=true
 rw [gw_ok];rfl
theorem cn_kd (k:Cn):MX.kd (.str k.key)=true:=cn_ok k
theorem Wr.key_kd (x:Wr):MX.kd x.key=true:=by
 cases x with
 | c k i=>exact cn_kd k
 | p g i nm wt=>exact pk_kd g i
theorem Wr.dat_kd (x:Wr):MX.kd x.dat=true:=by cases x<;>rfl
theorem pk_inj {g g':Bool} {i i':Int} (h:pk g i=pk g' i'):g=g'/\i=i':=by
 injection h with h
 injection h with h1 h2
 injection h1 with h1
 injection h2 with h2 _
 injection h2 with h2
 exact ⟨gw_inj h1,h2⟩
theorem eqv_key {x:Wr} {d:PyData} (hd:MX.kd d=true):PyData.eqv x.key d=true ↔ x.key=d:=MX.eqv_iff _ _ x.key_kd hd
theorem Wr.cnt_some {x:Wr} {k:Cn} {i:Int} (h:x.cnt k=some i):x=.c k i:=by
 cases x with
 | c k' j =>
   unfold Wr.cnt at h
   dsimp only at h
   split at h
   · rename_i e;cases e;cases h;rfl
   · cases h
 | p=>cases h
theorem Wr.plc_some {x:Wr} {g:Bool} {i nm wt:Int} (h:x.plc g i=some (nm,wt)):x=.p g i nm wt:=by
 cases x with
 | c=>cases h
 | p g' j a b =>
   unfold Wr.plc at h
   dsimp only at h
   split at h
   · rename_i e;obtain ⟨e1,e2⟩:=e;cases e1;cases e2;cases h;rfl
   · cases h
theorem Wr.cnt_none {x:Wr} {k:Cn} (h:x.cnt k=none):x.key≠.str k.key:=by
 intro e
 cases x with
 | c k' j =>
   have:=cn_inj (PyData.str.inj e)
   unfold Wr.cnt at h
   dsimp only at h
   rw [if_pos this] at h;cases h
 | p=>cases e
theorem Wr.plc_none {x:Wr} {g:Bool} {i:Int} (h:x.plc g i=none):x.key≠pk g i:=by
 intro e
 cases x with
 | c=>cases e
 | p g' j a b =>
   have:=pk_inj e
   unfold Wr.plc at h
   dsimp only at h
   rw [if_pos this] at h;cases h
def WrR (H:Hp) (x:Wr) (q:PyData × V):Prop:=x.Ok/\q.1=x.key/\DV H x.dat q.2
theorem WrR.keep {H H':Hp} {x:Wr} {q:PyData × V} (h:WrR H x q) (ht:∀ b vs,H b=some (.tup vs)->H' b=some (.tup vs)):WrR H' x q:=⟨h.1,h.2.1,DV.keep ht _ _ x.dat_kd h.2.2⟩
def allKeys:List PyData:=[.str (Cn.key .asked),.str (Cn.key .taken),.str (Cn.key .answered),.str (Cn.key .handed),.str (Cn.key .hs),.str (Cn.key .ts),
 pk false 0,pk false 1,pk false 2,pk false 3,pk false 4,pk false 5,pk false 6,pk false 7,pk true 0,pk true 1,pk true 2,pk true 3,pk true 4,pk true 5,pk true 6,pk true 7]
theorem Wr.key_all {x:Wr} (h:x.Ok):x.key∈allKeys:=by
 cases x with
 | c k i=>cases k<;>simp [Wr.key,allKeys]
 | p g i a b =>
   have h':0 <= i/\i < 8:=h.1
   have:i=0\/i=1\/i=2\/i=3\/i=4\/i=5\/i=6\/i=7:=by omega
   rcases this with rfl | rfl | rfl | rfl | rfl | rfl | rfl | rfl<;>cases g<;>simp [Wr.key,allKeys]
theorem nodup_le {α:Type} [DecidableEq α]:∀ {l ks:List α},l.Nodup->(∀ a∈l,a∈ks)->l.length <= ks.length
 | [],_,_,_=>Nat.zero_le _
 | a :: l,ks,h,hs=>by
   have ha:=hs a List.mem_cons_self
   have hn:=List.nodup_cons.mp h
   have:=nodup_le (l:=l) (ks:=ks.erase a) hn.2 λb hb=>(List.mem_erase_of_ne (λe=>hn.1 (by rw [← e];exact hb))).mpr (hs b (List.mem_cons_of_mem _ hb))
   rw [List.length_erase_of_mem ha] at this
   have h0:0 < ks.length:=List.length_pos_of_mem ha
   rw [List.length_cons];omega
structure MemR (H:Hp) (M:List (PyData × V)) (m:Mem):Prop where
 c:∀ k:Cn,(lookD M (.str k.key)).getD (.int 0)=.int (m.c k)
 p:∀ g i,(m.p g i=none/\lookD M (pk g i)=none)\/∃ nm wt v,m.p g i=some (nm,wt)/\lookD M (pk g i)=some v/\DV H (.tuple [.int nm,.int wt]) v
 ks:∀ q∈M,q.1∈allKeys
 ok:∀ g i nm wt,m.p g i=some (nm,wt)->0 <= nm/\nm < 9
theorem allKeys_kd:∀ d∈allKeys,MX.kd d=true:=by
 intro d hd
 simp only [allKeys,List.mem_cons,List.not_mem_nil,or_false] at hd
 rcases hd with rfl | rfl | rfl | rfl | rfl | rfl | rfl | rfl | rfl | rfl | rfl | rfl | rfl | rfl | rfl | rfl | rfl | rfl | rfl | rfl | rfl | rfl<;>first | exact cn_kd _ | exact pk_kd _ _
theorem MemR.kk {H:Hp} {M:List (PyData × V)} {m:Mem} (h:MemR H M m):KK M:=λq hq=>allKeys_kd _ (h.ks q hq)
theorem MemR.zero {H:Hp}:MemR H [] Mem.zero:=⟨λ_=>rfl,λ_ _=>.inl ⟨rfl,rfl⟩,λ_ h=>(by cases h),λ_ _ _ _ h=>(by cases h)⟩
theorem MemR.keep {H H':Hp} {M:List (PyData × V)} {m:Mem} (h:MemR H M m) (ht:∀ b vs,H b=some (.tup vs)->H' b=some (.tup vs)):MemR H' M m :=
 ⟨h.c,λg i=>(h.p g i).imp id λ⟨nm,wt,v,a,b,c⟩=>⟨nm,wt,v,a,b,DV.keep ht _ _ rfl c⟩,h.ks,h.ok⟩
theorem put_ks {M:List (PyData × V)} {k:PyData} {v:V} {K:List PyData} (h:∀ q∈M,q.1∈K) (hk:k∈K):∀ q∈putD M k v,q.1∈K:=by
 intro q hq
 unfold putD at hq
 split at hq
 · obtain ⟨p,hp,e⟩:=List.mem_map.mp hq
   have:=h p hp
   rw [← e]
   split<;>exact this
 · rcases List.mem_append.mp hq with z | z
   · exact h q z
   · rw [List.mem_singleton.mp z];exact hk
theorem MemR.put {H:Hp} {M:List (PyData × V)} {m:Mem} {x:Wr} {q:PyData × V} (h:MemR H M m) (hx:WrR H x q):MemR H (putD M q.1 q.2) (m.put x):=by
 obtain ⟨ho,hk,hd⟩:=hx
 refine ⟨λk=>?_,λg i=>?_,put_ks h.ks (by rw [hk];exact Wr.key_all ho),λg i nm wt e=>?_⟩
 · rw [hk,look_put h.kk x.key_kd (cn_kd k)]
   unfold Mem.put
   dsimp only
   cases e:x.cnt k with
   | some i =>
     have ex:=Wr.cnt_some e
     subst ex
     rw [if_pos (show PyData.eqv (Wr.key (.c k i)) (.str k.key)=true from eqv_self (cn_kd k))]
     exact hd
   | none =>
     rw [if_neg λz=>Wr.cnt_none e ((eqv_key (cn_kd k)).mp z)]
     exact h.c k
 · rw [hk,look_put h.kk x.key_kd (pk_kd g i)]
   unfold Mem.put
   dsimp only
   cases e:x.plc g i with
   | some nw =>
     have ex:=Wr.plc_some (nm:=nw.1) (wt:=nw.2) e
     subst ex
     rw [if_pos (show PyData.eqv (Wr.key (.p g i nw.1 nw.2)) (pk g i)=true from eqv_self (pk_kd g i))]
     exact .inr ⟨nw.1,nw.2,q.2,rfl,rfl,hd⟩
   | none =>
     rw [if_neg λz=>Wr.plc_none e ((eqv_key (pk_kd g i)).mp z)]
     exact h.p g i
 · have e':(x.plc g i).or (m.p g i)=some (nm,wt):=e
   cases q:x.plc g i with
   | none=>rw [q] at e';exact h.ok g i nm wt e'
   | some nw =>
     rw [q] at e'
     cases e'
     have ex:=Wr.plc_some q
     subst ex
     exact ho.2
theorem Paired.rev {α β:Type} {F:α->β->Prop}:∀ {xs:List α} {ys:List β},Paired F xs ys->Paired F xs.reverse ys.reverse
 | _,_,.nil=>.nil
 | _,_,.cons r t=>by
   rw [List.reverse_cons,List.reverse_cons]
   exact Paired.snoc (Paired.rev t) r
theorem find_c {H:Hp} {k:Cn}:∀ {row:List Wr} {es:List (PyData × V)},Paired (WrR H) row es ->
   (es.find? λp=>PyData.eqv p.1 (.str k.key)).map (·.2)=(row.findSome? (Wr.cnt k)).map V.int
 | _,_,.nil=>rfl
 | x :: row,q :: es,.cons ⟨_,hk,hd⟩ t=>by
   rw [List.find?_cons,List.findSome?_cons]
   cases e:x.cnt k with
   | some i =>
     have ex:=Wr.cnt_some e
     subst ex
     have:PyData.eqv q.1 (.str k.key)=true:=by rw [hk];exact eqv_self (cn_kd k)
     rw [this]
     show some q.2=some (V.int i)
     exact congrArg some hd
   | none =>
     have:PyData.eqv q.1 (.str k.key)=false:=by
       rw [hk]
       cases z:PyData.eqv x.key (.str k.key) with
       | false=>rfl
       | true=>exact absurd ((eqv_key (cn_kd k)).mp z) (Wr.cnt_none e)
     rw [this]
     exact find_c t
theorem find_p {H:Hp} {g:Bool} {i:Int}:∀ {row:List Wr} {es:List (PyData × V)},Paired (WrR H) row es ->
   (row.findSome? (Wr.plc g i)=none/\(es.find? λp=>PyData.eqv p.1 (pk g i))=none)\/∃ nm wt q,row.findSome? (Wr.plc g i)=some (nm,wt)/\(es.find? λp=>PyData.eqv p.1 (pk g i))=some q/\DV H (.tuple [.int nm,.int wt]) q.2
 | _,_,.nil=>.inl ⟨rfl,rfl⟩
 | x :: row,q :: es,.cons ⟨_,hk,hd⟩ t=>by
   rw [List.find?_cons,List.findSome?_cons]
   cases e:x.plc g i with
   | some nw =>
     have ex:=Wr.plc_some (nm:=nw.1) (wt:=nw.2) e
     subst ex
     have:PyData.eqv q.1 (pk g i)=true:=by rw [hk];exact eqv_self (pk_kd g i)
     rw [this]
     exact .inr ⟨nw.1,nw.2,q,rfl,rfl,hd⟩
   | none =>
     have:PyData.eqv q.1 (pk g i)=false:=by
       rw [hk]
       cases z:PyData.eqv x.key (pk g i) with
       | false=>rfl
       | true=>exact absurd ((eqv_key (pk_kd g i)).mp z) (Wr.plc_none e)
     rw [this]
     exact find_p t
theorem readV_c {H:Hp} {M es:List (PyData × V)} {m:Mem} {row:List Wr} (h:MemR H M m) (r:Paired (WrR H) row es) (k:Cn):readV M es (.str k.key)=.int (rdC m row k):=by
 rw [readV_eq]
 unfold lastW rdC
 rw [find_c (Paired.rev r)]
 cases row.reverse.findSome? (Wr.cnt k) with
 | some i=>rfl
 | none=>exact h.c k
theorem readV_p {H:Hp} {M es:List (PyData × V)} {m:Mem} {row:List Wr} (h:MemR H M m) (r:Paired (WrR H) row es) (g:Bool) (i:Int) :
   (rdP m row g i=none/\readV M es (pk g i)=.int 0)\/∃ nm wt c,rdP m row g i=some (nm,wt)/\readV M es (pk g i)=.ref c/\H c=some (.tup [.int nm,.int wt]):=by
 rw [readV_eq]
 unfold lastW rdP
 have tup:∀ {nm wt:Int} {v:V},DV H (.tuple [.int nm,.int wt]) v->∃ c,v=.ref c/\H c=some (.tup [.int nm,.int wt]):=λ{nm wt v} h=>by
   obtain ⟨c,vs,e,hc,v1,r1,e1,d1,v2,r2,e2,d2,e3⟩:=h
   cases d1;cases d2;cases e3;subst e2 e1
   exact ⟨c,e,hc⟩
 rcases find_p (g:=g) (i:=i) (Paired.rev r) with ⟨e1,e2⟩ | ⟨nm,wt,q,e1,e2,d⟩
 · rw [e1,e2]
   rcases h.p g i with ⟨a,b⟩ | ⟨nm,wt,v,a,b,c⟩
   · rw [a,b];exact .inl ⟨rfl,rfl⟩
   · rw [a,b]
     obtain ⟨c',rfl,hc⟩:=tup c
     exact .inr ⟨nm,wt,c',rfl,rfl,hc⟩
 · rw [e1,e2]
   obtain ⟨c',e,hc⟩:=tup d
   exact .inr ⟨nm,wt,c',rfl,by show q.2=_;exact e,hc⟩
theorem find_ok {H:Hp} {g:Bool} {i nm wt:Int}:∀ {row:List Wr} {es:List (PyData × V)},Paired (WrR H) row es->row.findSome? (Wr.plc g i)=some (nm,wt)->0 <= nm/\nm < 9
 | _,_,.nil,h=>by cases h
 | x :: row,_,.cons hx t,h=>by
   rw [List.findSome?_cons] at h
   cases q:x.plc g i with
   | none=>rw [q] at h;exact find_ok t h
   | some nw =>
     rw [q] at h
     cases h
     have ex:=Wr.plc_some q
     subst ex
     exact hx.1.2
theorem rdP_ok {H:Hp} {M es:List (PyData × V)} {m:Mem} {row:List Wr} (h:MemR H M m) (r:Paired (WrR H) row es) {g:Bool} {i nm wt:Int} (e:rdP m row g i=some (nm,wt)):0 <= nm/\nm < 9:=by
 unfold rdP at e
 cases q:row.reverse.findSome? (Wr.plc g i) with
 | none=>rw [q] at e;exact h.ok g i nm wt e
 | some nw =>
   rw [q] at e
   cases e
   exact find_ok (Paired.rev r) q
def StT (w:World) (C:Addr) (H:Hp) (sa:SA) (m:Mem) (rs:Bool->List Wr):Prop:=∃ M r,sa.At w C H M r/\MemR H M m/\∀ b,Paired (WrR H) (rs b) (r b)
section
variable {w:World} {C:Addr} {H H':Hp} {sa:SA} {m:Mem} {rs:Bool->List Wr}
theorem StT.keep (S:StT w C H sa m rs) (h:∀ c o,sa.own c->H c=some o->H' c=some o) (ht:∀ b vs,H b=some (.tup vs)->H' b=some (.tup vs)):StT w C H' sa m rs:=by
 obtain ⟨M,r,S,R,P⟩:=S
 exact ⟨M,r,S.keep (λc o hc=>h c o (own_of hc)) ht,R.keep ht,λb=>Paired.mapP (P b) λ_ _ q=>q.keep ht⟩
theorem StT.same (S:StT w C H sa m rs) (h:Same H H'):StT w C H' sa m rs:=S.keep (λc o _=>h c o) λb vs=>h b _
theorem StT.there (S:StT w C H sa m rs) {c:Addr} (h:sa.own c):∃ o,H c=some o/\(∀ xs,o≠.tup xs):=by
 obtain ⟨M,r,S,_⟩:=S
 exact S.there h
theorem StT.kp {xs:List Addr} (S:StT w C H sa m rs) (k:Kp xs H H') (h:∀ c∈xs,¬ sa.own c) (ht:∀ c∈xs,∀ vs,H c≠some (.tup vs)):StT w C H' sa m rs :=
 S.keep (λc o hc e=>k c o (λz=>h c z hc) e) λc vs e=>k c _ (λz=>ht c z vs e) e
theorem StT.ob (S:StT w C H sa m rs):∃ dx,H sa.x=some (.ins C dx (stF sa.hd sa.rl)):=by
 obtain ⟨M,r,S,_⟩:=S
 exact S.ob
theorem StT.names (S:StT w C H sa m rs) {b g:Bool} {i nm wt:Int} (e:rdP m (rs b) g i=some (nm,wt)):0 <= nm/\nm < 9:=by
 obtain ⟨M,r,S,R,P⟩:=S
 exact rdP_ok R (P b) e
theorem StT.small {M:List (PyData × V)} {r:Bool->List (PyData × V)} (S:sa.At w C H M r) (R:MemR H M m):M.length <= 22:=by
 obtain ⟨es,ep,_,_,nd,_⟩:=S.me
 have:=@nodup_le PyData (λa b=>Classical.propDecidable (a=b)) _ allKeys nd λd hd=>by
   obtain ⟨q,hq,rfl⟩:=List.mem_map.mp hd
   exact R.ks q hq
 rw [List.length_map] at this
 exact this
end
theorem paired_app {α β:Type} {F:α->β->Prop}:∀ {xs:List α} {ys:List β} {xs':List α} {ys':List β},Paired F xs ys->Paired F xs' ys'->Paired F (xs++xs') (ys++ys')
 | _,_,_,_,.nil,t=>t
 | _,_,_,_,.cons r t,t'=>.cons r (paired_app t t')
theorem StT.grow {w:World} {C:Addr} {H H':Hp} {sa:SA} {m:Mem} {rs:Bool->List Wr} {M:List (PyData × V)} {r:Bool->List (PyData × V)} {b:Bool} {ws:List Wr} {es:List (PyData × V)} (R:MemR H M m) (P:∀ b,Paired (WrR H) (rs b) (r b)) (S2:sa.At w C H' M (setR r b (r b++es))) (ht:∀ c vs,H c=some (.tup vs)->H' c=some (.tup vs)) (hn:Paired (WrR H') ws es):StT w C H' sa m (setR rs b (rs b++ws)):=by
 refine ⟨M,_,S2,R.keep ht,λc=>?_⟩
 by_cases e:c=b
 · subst e
   rw [setR_same,setR_same]
   exact paired_app (Paired.mapP (P c) λ_ _ q=>q.keep ht) hn
 · rw [setR_ne e,setR_ne e]
   exact Paired.mapP (P c) λ_ _ q=>q.keep ht
def aheadT (p:RP) (m:Mem) (row:List Wr) (a b:Cn):Int:=(rdC m row a - rdC m row b) % (p.s * p.R)
def nextT (p:RP) (m:Mem) (row:List Wr) (a:Cn):Wr:=.c a ((rdC m row a+1) % (p.s * p.R))
def layT (p:RP) (m:Mem) (row:List Wr) (g:Bool) (a:Cn) (nm wt:Int):List Wr :=
 if p.e then [nextT p m row a,.p g (rdC m row a % p.s) nm wt] else [.p g (rdC m row a % p.s) nm wt,nextT p m row a]
theorem lay_rows {H:Hp} {p:RP} {m:Mem} {row:List Wr} {g:Bool} {a:Cn} {nm wt:Int} {t:Addr} (hp:p.Ok) (hn:0 <= nm/\nm < 9) (ht:H t=some (.tup [.int nm,.int wt])):Paired (WrR H) (layT p m row g a nm wt) (layRow p (gWord g) a.key (rdC m row a) (.ref t)):=by
 have h1:WrR H (.p g (rdC m row a % p.s) nm wt) (.tuple [.str (gWord g),.int (rdC m row a % p.s)],.ref t):=by
   have a1:=Int.emod_nonneg (rdC m row a) (show p.s≠0 by have:=hp.s0;omega)
   have a2:=Int.emod_lt_of_pos (rdC m row a) hp.s0
   have:=hp.s8
   exact ⟨⟨⟨a1,by omega⟩,hn⟩,rfl,⟨t,_,rfl,ht,_,_,rfl,rfl,_,_,rfl,rfl,rfl⟩⟩
 have h2:WrR H (nextT p m row a) (.str a.key,.int ((rdC m row a+1) % (p.s * p.R))):=⟨trivial,rfl,rfl⟩
 unfold layT layRow
 cases p.e with
 | true=>exact .cons h2 (.cons h1 .nil)
 | false=>exact .cons h1 (.cons h2 .nil)
end L2

namespace L2
open PySem PySem.Spec PyProof.Rows
def cxComp2 (X:Cx) (scope:Scope) (cl:List (Str × Addr)) (C:Addr) (x x2:Str) (N':List Str) (s₃:Shared) (H₃:Hp) (pins:List (Addr × Obj)) (ex:List Addr) (E':Value->Shared->Prop):Cx :=
 { X with N:=N',s₀:=s₃,H₀:=H₃,env:=compEnvC scope cl C X.env,outer:=X.stack,stack:=X.stack,ex:=ex,fn:=λy=>y == x || y == x2,pn:=X.pn++pins,xe:=E' }
theorem pg_two {X:Cx} {x1 x2:Str} {p1 p2 pos:Pos} {k:Nat} (hc:X.calm=true) (hN:X.N.Nodup) (h0:X.N[0]?=some x1) (h1:X.N[1]?=some x2) (l1:Loc X.env.scope x1) (l2:Loc X.env.scope x2) (f1:X.fn x1=true) (f2:X.fn x2=true) :
   PG X (.Tuple [.Name x1 p1,.Name x2 p2] k pos) (gTup X.K 2 (gCons (gName 0) (gCons (gName 1) gNil))) :=
 pg_tup hc (pgs_cons (pg_name hN h0 l1 (.inl f1)) (pgs_cons (pg_name hN h1 l2 (.inl f2)) pgs_nil))
abbrev testsOf (ifs:List Expr) (env:Env):Sem Bool:=forIn ifs true λc r=>if r=true then do
 let ok ← isTrue c env (eval c env)
 pure (ForInStep.yield ok) else pure (ForInStep.yield r)
theorem loop_any {P:Program} {w:World} {A:Around} {R:Result->Shared->Prop} {s:Shared} {elt tg iter:Expr} {ifs:List Expr} {sc:Scope} {ps:Pos} {it acc:Value} {env:Env} (J:Nat->Shared->Prop)
   (turn:∀ k t,J k t->wpAny (model P w) A (pyNext it) (λo t1=>match o with
     | none=>R (.ok .next) t1
     | some y=>wpAny (model P w) A (letOwnedTupleGo tg it y) (λ_ t2=>wpAny (model P w) A (assign tg env y) (λ_ t3=>wpAny (model P w) A (testsOf ifs env) (λok t4 =>
         if ok=true then wpAny (model P w) A (eval elt env) (λx t5=>wpAny (model P w) A (call (.builtin "list.append") [acc,x]) (λ_ t6=>∃ j,j < k/\J j t6) (notedBy (model P w) A env λe t'=>R (.error e) t') t5) (notedBy (model P w) A env λe t'=>R (.error e) t') t4
         else ∃ j,j < k/\J j t4) (notedBy (model P w) A env λe t'=>R (.error e) t') t3) (notedBy (model P w) A env λe t'=>R (.error e) t') t2) (notedBy (model P w) A env λe t'=>R (.error e) t') t1) (notedBy (model P w) A env λe t'=>R (.error e) t') t)
   (k:Nat) (h:J k s):codeAny (model P w) A (.compLoop (.ListComp elt [⟨tg,iter,ifs,0⟩] sc ps) 0 it acc env) R s:=by
 refine codeAny_loop rfl J (λk t hJ=>?_) k h
 show wpAny _ A (Sem.onRaise (compTurn (.ListComp elt [⟨tg,iter,ifs,0⟩] sc ps) 0 it acc env) (λy=>do noteFrame y env;theTreesLotGoes y)) _ _ t
 refine wpAny_noted ?_
 rw [compTurn_list]
 refine wpAny_bind (wpAny_standAt (wpAny_bind (thn (turn k t hJ) λo t1 h1=>?_)))
 cases o with
 | none=>exact wpAny_pure h1
 | some y =>
   refine wpAny_bind (thn h1 λ_ t2 h2=>wpAny_bind (thn h2 λ_ t3 h3=>wpAny_bind (thn h3 λok t4 h4=>?_)))
   cases ok with
   | false=>exact wpAny_pure ⟨rfl,h4⟩
   | true =>
     rw [if_pos rfl] at h4
     refine wpAny_bind (wpAny_bind (thn h4 λx t5 h5=>wpAny_bind (thn h5 λ_ t6 h6=>?_)))
     exact wpAny_pure (wpAny_pure ⟨rfl,h6⟩)
def tComp2 (wi:TI) (g:TG) (js:List Nat) (tc:TT) (te:TE):TE:=λσ H Q=>wi σ H λJ H1=>∀ D,H1 D=none->∃ W:Nat->Nat->List V->Hp->Prop,(∃ m,W 0 m [] (upd H1 D (.lst []))) /\
 ∀ i m ys H2,W i m ys H2->H2 D=some (.lst ys)/\ys.length < sizeLine/\((J.stop i H2/\Q (.ref D) H2)\/(J.go i H2/\∀ x H3,J.yld i H2 x H3->∀ v0 v1:Option V,
   g x (v0 :: v1 :: capt σ js) H3 λσ' H'=>∃ v0' v1',σ'=v0' :: v1' :: capt σ js/\tc σ' H' λb H4=>if b=true then te σ' H4 λy H5=>H5 D=some (.lst ys)/\∃ m',m' < m/\W (i+1) m' (ys++[y]) (upd H5 D (.lst (ys++[y])))
     else ∃ m',m' < m/\W (i+1) m' ys H4))
section
variable {X:Cx} {scope:Scope} {cl:List (Str × Addr)} {x x2:Str} {N':List Str}
theorem cxComp2_ok {pins:List (Addr × Obj)} {σ:St} {H₃:Hp} {s₃:Shared} {ex:List Addr} {E':Value->Shared->Prop} (O:CompOk X scope cl x) (O2:CompOk X scope cl x2) (I:Inv X pins σ H₃ s₃) (hf:∀ b∈ex,FpOk X pins H₃ b/\b < s₃.heap.objs.size) :
   (cxComp2 X scope cl s₃.heap.objs.size x x2 N' s₃ H₃ pins ex E').Ok where
 mod:=I.ok.mod
 kind:=O.kind
 glob:=I.ok.glob
 blt:=I.ok.blt
 above:=Nat.le_refl _
 inj:=λy z c h1 h2=>I.ok.inj y z c (O.sub _ (mem_of_lookup h1)) (O.sub _ (mem_of_lookup h2))
 has:=λy h=>by
   have h':∃ k,(relabel scope X.env).names.lookup y=some k/\(k=.cell\/k=.free):=by
     rcases h with h | h
     · exact ⟨_,h,.inl rfl⟩
     · exact ⟨_,h,.inr rfl⟩
   obtain ⟨k,e,hk⟩:=h'
   obtain ⟨p,hp,rfl,e2⟩:=relabel_mem e hk O.nocell
   exact O.has p hp e2
 cab:=λy c h1 h2=>by
   have h2':cl.lookup y=some c:=h2
   rcases Bool.or_eq_true_iff.mp h1 with e | e
   · rw [beq_iff_eq.mp e,O.nox] at h2';cases h2'
   · rw [beq_iff_eq.mp e,O2.nox] at h2';cases h2'
 hd:=I.ok.hd
 frames:=I.ok.frames
 stk:=.inl rfl
 exf:=λb hb=>⟨Nat.ne_of_lt (hf b hb).2,λy c e=>(hf b hb).1.2.2.2.2.1 y c (O.sub _ (mem_of_lookup e))⟩
 bs:=I.bs
 bsz:=Nat.le_trans I.ok.bsz I.sz
 noex:=λb o e hb=>by
   obtain ⟨_,_,_,h4,_⟩:=(hf b hb).1
   rcases h4 with z | z
   · exact I.ok.noex b o e z
   · have g1:b < X.base.objs.size:=Heap.lt_size e
     exact absurd (Nat.lt_of_lt_of_le g1 (Nat.le_trans I.ok.bsz z)) (Nat.lt_irrefl _)
 exfs:=λb hb z=>by
   obtain ⟨_,h2,h3,_⟩:=(hf b hb).1
   rcases List.mem_cons.mp (I.stkSub b z) with q | q
   · exact h2 q
   · exact h3 q
 funs:=I.stack
 frf:=I.stkFree
theorem Inv.block2 {pins:List (Addr × Obj)} {σ σ':St} {H₃ H':Hp} {s₃ s':Shared} {ex:List Addr} {E':Value->Shared->Prop} {h':Heap} (I:Inv X pins σ H₃ s₃) (hf:∀ b∈ex,FpOk X pins H₃ b)
   (I':Inv (cxComp2 X scope cl s₃.heap.objs.size x x2 N' s₃ H₃ pins ex E') [] σ' H' s') (hs:Heap.SameBut s₃.heap.objs.size s'.heap h'):Inv X pins σ H' { s' with heap:=h' }:=by
 have ne:∀ b o,s₃.heap.get? b=some o->b≠s₃.heap.objs.size:=λb o e=>Nat.ne_of_lt (Heap.lt_size e)
 have fr:H' s₃.heap.objs.size=none:=I'.free
 have hok:HOk X.prog X.w H' h':=λa o e=>by
   refine (I'.hok a o e).stay (λb u hb q=>(hs.2 b ?_).trans q) (λ_ q=>q) λ_ _ q=>q
   rintro rfl
   rcases hb with z | z
   · rw [← z,fr] at e;cases e
   · rw [fr] at z;cases z
 have u:Un (frs X.stack) ex H₃ H' s₃.heap h':=by
   obtain ⟨k1,k2,k3,k4,k5,k6,k7⟩:=I'.base
   refine ⟨λb o q n hb hx=>(hs.2 b (ne b o q)).trans (k1 b o q n hb hx),λb o q n hb hx=>?_,k3,λb o q hx=>?_,k5,k6,k7⟩
   · obtain ⟨sl,e⟩:=k2 b o q n hb hx
     exact ⟨sl,(hs.2 b (ne b o q)).trans e⟩
   · obtain ⟨o',e⟩:=k4 b o q hx
     exact ⟨o',(hs.2 b (ne b o q)).trans e⟩
 exact I.call' (s':={ s' with heap:=h' }) I'.os u hok I'.bare λb hb=>⟨(hf b hb).2.2.2.1,(hf b hb).2.1,(hf b hb).2.2.2.2.1,(hf b hb).2.2.2.2.2⟩
theorem Inv.enter2 {pins:List (Addr × Obj)} {σ:St} {H₃:Hp} {s₃:Shared} {ex:List Addr} {E':Value->Shared->Prop} {caps:List Str} {js:List Nat} {h₁:Heap} {tk:Nat} (O:CompOk X scope cl x) (O2:CompOk X scope cl x2) (I:Inv X pins σ H₃ s₃)
   (hf:∀ b∈ex,FpOk X pins H₃ b/\b < s₃.heap.objs.size) (hcap:∀ y∈caps,∃ c,cl.lookup y=some c) (hjs:Paired (λ(y:Str) (j:Nat)=>X.N[j]?=some y/\(X.env.scope.names.lookup y=some .cell\/X.env.scope.names.lookup y=some .free)) caps js)
   (hkc:∀ y∈caps,(relabel scope X.env).names.lookup y=some .cell\/(relabel scope X.env).names.lookup y=some .free)
   (hn:h₁.Ns s₃.heap.objs.size λ_=>none) (hk:∀ b o,s₃.heap.get? b=some o->h₁.get? b=some o) :
   Inv (cxComp2 X scope cl s₃.heap.objs.size x x2 (x :: x2 :: caps) s₃ H₃ pins ex E') [] (none :: none :: capt σ js) H₃ { s₃ with heap:=h₁,toks:=tk }:=by
 have hlen:caps.length=js.length:=Paired.length hjs
 obtain ⟨m0,hm0,hl0⟩:=I.loc
 refine ⟨cxComp2_ok O O2 I hf,rfl,I.bare,Un.kept hk,⟨_,hn,λi y v e1 e2 e3=>?_⟩,λy c e=>?_,I.hok.fresh (Nat.le_refl _),λy c e=>I.freeC y c (O.sub _ (mem_of_lookup e)),λp hp=>?_,I.hok.kept hk,?_⟩
 · match i,e1,e2 with
   | 0,_,e2=>cases e2
   | 1,_,e2=>cases e2
   | i+2,e1,e2 =>
     have e1':(x :: x2 :: caps)[i+2]?=some y:=e1
     rw [List.getElem?_cons_succ,List.getElem?_cons_succ] at e1'
     have e2':(none :: none :: capt σ js)[i+2]?=some (some v):=e2
     rw [List.getElem?_cons_succ,List.getElem?_cons_succ] at e2'
     obtain ⟨j,ej,hN,hk1⟩:=MX.f2_get' hjs i y e1'
     unfold capt at e2'
     rw [List.getElem?_map,ej] at e2'
     have e3':(σ[j]?).getD none=some v:=by simpa using e2'
     have e4:σ[j]?=some (some v):=by
       cases q:σ[j]? with
       | none=>rw [q] at e3';cases e3'
       | some z=>rw [q] at e3';rw [show z=some v from e3']
     obtain ⟨u,r,l⟩:=hl0 j y v hN e4 (by rcases hk1 with z | z;exact .inr (.inl z);exact .inr (.inr z))
     obtain ⟨c,hc⟩:=hcap y (List.mem_of_getElem? e1')
     refine ⟨u,r,.inr ⟨hkc y (List.mem_of_getElem? e1'),c,hc,?_⟩⟩
     rcases l with ⟨z,_⟩ | ⟨_,c',z1,o,z2,z3⟩
     · have z':X.env.scope.names.lookup y=some .local:=z
       rcases hk1 with q | q<;>(rw [q] at z';cases z')
     · rw [O.sub _ (mem_of_lookup hc)] at z1
       cases z1
       exact ⟨o,hk _ _ z2,z3⟩
 · obtain ⟨v,o,z2,z3⟩:=I.cell y c (O.sub _ (mem_of_lookup e))
   exact ⟨v,o,hk _ _ z2,z3⟩
 · have hp':p∈X.pn++pins:=by simpa [cxComp2] using hp
   obtain ⟨g1,g2,g3,g4,g5⟩:=I.pin p hp'
   refine ⟨hk _ _ g1,g2,Nat.ne_of_lt (Heap.lt_size g1),λz=>?_,g5⟩
   rcases List.mem_cons.mp (I.stkSub p.1 z) with q | q
   · exact g3 q
   · exact g4 q
 · show (none :: none :: capt σ js).length=(x :: x2 :: caps).length
   unfold capt
   rw [List.length_cons,List.length_cons,List.length_cons,List.length_cons,List.length_map,hlen]
theorem pe_comp2 {pos:Pos} {tg:Expr} {g:TG} {iter elt:Expr} {ifs:List Expr} {caps:List Str} {js:List Nat} {wi:TI} {tc:TT} {te:TE} (hc:X.calm=true) (O:CompOk X scope cl x) (O2:CompOk X scope cl x2) (hg:∀ C s₃ H₃ pins ex E',PG (cxComp2 X scope cl C x x2 (x :: x2 :: caps) s₃ H₃ pins ex E') tg g)
   (hcap:∀ y∈caps,∃ c,cl.lookup y=some c) (hjs:Paired (λ(y:Str) (j:Nat)=>X.N[j]?=some y/\(X.env.scope.names.lookup y=some .cell\/X.env.scope.names.lookup y=some .free)) caps js)
   (hkc:∀ y∈caps,(relabel scope X.env).names.lookup y=some .cell\/(relabel scope X.env).names.lookup y=some .free)
   (hi:PI X tg iter wi) (ht:∀ C s₃ H₃ pins ex E',PTs (cxComp2 X scope cl C x x2 (x :: x2 :: caps) s₃ H₃ pins ex E') ifs tc) (he:∀ C s₃ H₃ pins ex E',PE (cxComp2 X scope cl C x x2 (x :: x2 :: caps) s₃ H₃ pins ex E') elt te)
   (hs:∀ x,foldedSetIterable iter X.env x=pure x:=by intro _;rfl):PE X (.ListComp elt [⟨tg,iter,ifs,0⟩] scope pos) (tComp2 wi g js tc te):=by
 intro pins s σ H Q I h
 rw [eval_ListComp]
 refine wpAny_comprehension_free (use:=none) rfl hs O.clos O.kind O.names (thn (hi pins s σ H _ I h) λv s1 h1=>thn h1 λitv s2 ⟨it,fp,tn,J,H1,e,I2,T,t0,hf,q⟩=>?_)
 subst e
 refine wpAny_newObj_type (wpAny_newFunctionEnv O.nocell (by intro y hy;cases hy) (λh₁ hns₁ hsb₁=>?_) O.kind)
 obtain ⟨W,⟨m0,w0⟩,step⟩:=q s2.heap.objs.size (I2.hok.fresh (Nat.le_refl _))
 have I3:Inv X pins σ (upd H1 s2.heap.objs.size (.lst [])) { s2 with heap:=s2.heap.push { cls:=.type "list",data:=.seq ([]:List Value).toArray } }:=I2.lnew (t':=s2.toks) (its:=[]) .nil (Nat.zero_le _)
 have fpl:∀ b∈fp,b < s2.heap.objs.size:=λb hb=>by
   obtain ⟨o,e,_⟩:=T.obj _ _ t0 b hb
   exact Heap.lt_size e
 have hf3:∀ b∈fp,FpOk X pins (upd H1 s2.heap.objs.size (.lst [])) b:=λb hb=>by
   obtain ⟨f0,f⟩:=hf b hb
   exact ⟨by rw [upd_ne (Nat.ne_of_lt (fpl b hb))];exact f0,f⟩
 generalize hs3:({ s2 with heap:=s2.heap.push { cls:=.type "list",data:=.seq ([]:List Value).toArray } }:Shared)=s₃ at *
 generalize hH3:upd H1 s2.heap.objs.size (.lst [])=H₃ at *
 have hsz:s2.heap.objs.size < s₃.heap.objs.size:=by rw [← hs3];show _ < (s2.heap.push _).objs.size;rw [Heap.size_push];exact Nat.lt_succ_self _
 have hk2:∀ b o,s2.heap.get? b=some o->s₃.heap.get? b=some o:=λb o e=>by rw [← hs3];exact Heap.get?_push_of_some _ e
 have hk3:∀ b o,s₃.heap.get? b=some o->h₁.get? b=some o:=λb o e=>hsb₁.extBut b o (Nat.ne_of_lt (Heap.lt_size e)) (Heap.get?_push_of_some _ e)
 have t3:tn 0 h₁:=T.keep _ _ _ t0 λb _ o e=>hk3 b o (hk2 b o e)
 have loop:∀ (R:Result->Shared->Prop),(∀ f s',(∃ σ' H' i m ys,Inv (cxComp2 X scope cl s₃.heap.objs.size x x2 (x :: x2 :: caps) s₃ H₃ pins fp (notedBy (model X.prog X.w) X.A (compEnvC scope cl s₃.heap.objs.size X.env) λe s'=>R (.error e) s')) [] σ' H' s'/\W i m ys H'/\Q (.ref s2.heap.objs.size) H')->R (.ok f) s') ->
     ∀ tk,codeAny (model X.prog X.w) X.A (.compLoop (.ListComp elt [⟨tg,iter,ifs,0⟩] scope pos) 0 (.ref it) (.ref s2.heap.objs.size) (compEnvC scope cl s₃.heap.objs.size X.env)) R { s₃ with heap:=h₁,toks:=tk }:=by
   intro R hR tk
   have I4:=Inv.enter2 (E':=notedBy (model X.prog X.w) X.A (compEnvC scope cl s₃.heap.objs.size X.env) λe s'=>R (.error e) s') (tk:=tk) O O2 I3 (λb hb=>⟨hf3 b hb,Nat.lt_trans (fpl b hb) hsz⟩) hcap hjs hkc (by simpa using hns₁) hk3
   have stat:∀ {H':Hp},(∀ b∈fp,H' b=none)->∀ b∈fp,FpOk (cxComp2 X scope cl s₃.heap.objs.size x x2 (x :: x2 :: caps) s₃ H₃ pins fp (notedBy (model X.prog X.w) X.A (compEnvC scope cl s₃.heap.objs.size X.env) λe s'=>R (.error e) s')) [] H' b:=λhn b hb=>by
     obtain ⟨f0,f1,f2,f3,f4,f5⟩:=hf3 b hb
     refine ⟨hn b hb,Nat.ne_of_lt (Nat.lt_trans (fpl b hb) hsz),λz=>?_,.inl hb,λy c e=>f4 y c (O.sub _ (mem_of_lookup e)),λp hp=>f5 p (by simpa [cxComp2] using hp)⟩
     rcases List.mem_cons.mp (I3.stkSub b z) with q | q
     · exact f1 q
     · exact f2 q
   refine loop_any (λn s'=>∃ i v0 v1 ys H',Inv (cxComp2 X scope cl s₃.heap.objs.size x x2 (x :: x2 :: caps) s₃ H₃ pins fp (notedBy (model X.prog X.w) X.A (compEnvC scope cl s₃.heap.objs.size X.env) λe s'=>R (.error e) s')) [] (v0 :: v1 :: capt σ js) H' s'/\tn i s'.heap/\(∀ b∈fp,H' b=none)/\W i n ys H') ?_ m0
     ⟨0,none,none,[],H₃,I4,t3,λb hb=>(hf3 b hb).1,w0⟩
   rintro n s4 ⟨i,v0,v1,ys,H4,J4,t4,fr4,w4⟩
   obtain ⟨hD,hlen,hor⟩:=step i n ys H4 w4
   rcases hor with ⟨stop,qn⟩ | ⟨go,hy⟩
   · refine thn (T.done (cxComp2 X scope cl s₃.heap.objs.size x x2 (x :: x2 :: caps) s₃ H₃ pins fp (notedBy (model X.prog X.w) X.A (compEnvC scope cl s₃.heap.objs.size X.env) λe s'=>R (.error e) s')) rfl rfl rfl hc i [] s4 _ H4 _ J4 (stat fr4) t4 stop) λr s5 ⟨hr,J5⟩=>?_
     subst hr
     exact hR _ _ ⟨_,H4,i,n,ys,J5,w4,qn⟩
   · refine thn (T.item (cxComp2 X scope cl s₃.heap.objs.size x x2 (x :: x2 :: caps) s₃ H₃ pins fp (notedBy (model X.prog X.w) X.A (compEnvC scope cl s₃.heap.objs.size X.env) λe s'=>R (.error e) s')) rfl rfl rfl hc i [] s4 _ H4 _ J4 (stat fr4) t4 go) λr s5 ⟨u,hr,h5⟩=>?_
     subst hr
     refine thn h5 λ_ s6 ⟨y,H6,J6,ry,yl,t6,fr6⟩=>?_
     have J6':=J6.pinned (stat fr6) (T.obj _ _ t6)
     have hy6:=hy y H6 yl v0 v1
     refine thn (hg _ _ _ _ _ _ _ s6 _ H6 y u _ J6' ry hy6) λ_ s7 ⟨σ7,H7,J7,v0',v1',e7,hy7⟩=>?_
     subst e7
     refine thn (ht _ _ _ _ _ _ _ s7 _ H7 _ J7 hy7) λok s8 ⟨H8,J8,q8⟩=>?_
     have back:∀ {σ9:St} {H9:Hp} {s9:Shared},Inv (cxComp2 X scope cl s₃.heap.objs.size x x2 (x :: x2 :: caps) s₃ H₃ pins fp (notedBy (model X.prog X.w) X.A (compEnvC scope cl s₃.heap.objs.size X.env) λe s'=>R (.error e) s')) ([]++pinsAt fp s6.heap) σ9 H9 s9->tn (i+1) s9.heap/\∀ b∈fp,H9 b=none:=λJ9=>by
       refine ⟨T.keep _ _ _ t6 λb hb o e=>(J9.pin (b,o) (List.mem_append_right _ (List.mem_append_right _ (mem_pinsAt hb e)))).1,λb hb=>?_⟩
       obtain ⟨o,e,d⟩:=T.obj _ _ t6 b hb
       exact (J9.pin (b,o) (List.mem_append_right _ (List.mem_append_right _ (mem_pinsAt hb e)))).2.1
     cases ok with
     | false =>
       rw [if_neg (by decide)]
       rw [if_neg (by decide)] at q8
       obtain ⟨m',hm,w8⟩:=q8
       obtain ⟨b1,b2⟩:=back J8
       exact ⟨m',hm,i+1,v0',v1',ys,H8,J8.unpinned,b1,b2,w8⟩
     | true =>
       rw [if_pos rfl]
       rw [if_pos rfl] at q8
       refine thn (he _ _ _ _ _ _ _ s8 _ H8 _ J8 q8) λz s9 ⟨vz,H9,J9,rz,hD9,m',hm,w9⟩=>?_
       refine thn (mt_append (X:=cxComp2 X scope cl s₃.heap.objs.size x x2 (x :: x2 :: caps) s₃ H₃ pins fp (notedBy (model X.prog X.w) X.A (compEnvC scope cl s₃.heap.objs.size X.env) λe s'=>R (.error e) s')) _ s9 _ H9 (.ref s2.heap.objs.size) [vz] (.ref s2.heap.objs.size) [z] (λ_ H10=>H10=upd H9 s2.heap.objs.size (.lst (ys++[vz]))) J9 rfl (.cons rz .nil) ⟨_,ys,vz,rfl,rfl,hD9,hlen,rfl⟩) λ_ s10 ⟨v10,H10,J10,r10,e10⟩=>?_
       subst e10
       obtain ⟨b1,b2⟩:=back J10
       exact ⟨m',hm,i+1,v0',v1',ys++[vz],_,J10.unpinned,b1,b2,w9⟩
 have fin:∀ tk,codeAny (model X.prog X.w) X.A (.compLoop (.ListComp elt [⟨tg,iter,ifs,0⟩] scope pos) 0 (.ref it) (.ref s2.heap.objs.size) (compEnvC scope cl s₃.heap.objs.size X.env)) (compPost (model X.prog X.w) X.A X.xe none (EP X pins σ Q) (.ref s2.heap.objs.size) s₃.heap.objs.size) { s₃ with heap:=h₁,toks:=tk }:=λtk=>by
   refine loop _ (λf s' ⟨σ',H',i,m,ys,J',w',qn⟩=>?_) tk
   obtain ⟨mm,hmm,_⟩:=J'.loc
   exact ⟨mm,hmm,λh' hs'=>⟨.ref s2.heap.objs.size,H',Inv.block2 I3 hf3 J' hs',rfl,qn⟩⟩
 exact codeAny_compStart_list (fin _) (T.self _ _ _ _ _ t3 (fin _))
end
end L2

namespace L2
open PySem PySem.Spec PyProof.Rows
structure LA where
 sd:Addr
 md:Addr
 rw:Addr
 l:Bool->Addr
 ud:Addr
 tk:Addr
def lsK (la:LA) (p:RP) (n:Int):List (Key × V):=[(.inr "size",.int p.s),(.inr "rounds",.int p.R),(.inr "names",.int n),(.inr "early",.bl p.e),(.inr "memory",.ref la.md),(.inr "rows",.ref la.rw),(.inr "under",.ref la.ud),(.inr "tasks",.ref la.tk)]
section
variable {H:Hp} {la:LA} {p:RP} {n:Int}
end
def RowT (H:Hp) (l:Addr) (row:List Wr):Prop:=∃ ts es,H l=some (.lst ts)/\Paired (Wt H) es ts/\Paired (WrR H) row es
theorem RowT.keep {H H':Hp} {l:Addr} {row:List Wr} (h:RowT H l row) (hl:∀ o,H l=some o->H' l=some o) (ht:∀ b vs,H b=some (.tup vs)->H' b=some (.tup vs)):RowT H' l row:=by
 obtain ⟨ts,es,a,b,c⟩:=h
 exact ⟨ts,es,hl _ a,Paired.mapP b λ_ _ q=>q.keep ht,Paired.mapP c λ_ _ q=>q.keep ht⟩
theorem RowT.same {H H':Hp} {l:Addr} {row:List Wr} (h:RowT H l row) (s:Same H H'):RowT H' l row:=h.keep (λo=>s _ o) λb vs=>s b _
theorem RowT.data {H:Hp} {l:Addr} {row:List Wr} (h:RowT H l row):DV H (.list (row.map λx=>.tuple [x.key,x.dat])) (.ref l):=by
 obtain ⟨ts,es,a,b,c⟩:=h
 refine ⟨l,ts,rfl,a,rows_dvs b ?_⟩
 clear a b
 induction c with
 | nil=>exact .nil
 | cons hx t ih =>
   obtain ⟨_,hk,hd⟩:=hx
   exact .cons ⟨_,by rw [hk],hd⟩ ih
structure LS (w:World) (H:Hp) (la:LA) (p:RP) (n:Int) (m:Mem) (rs:Bool->List Wr) (un tk:List Int):Prop where
 sd:H la.sd=some (.dK (lsK la p n))
 me:∃ M,MD w H la.md M/\MemR H M m
 ro:H la.rw=some (.lst [.ref (la.l false),.ref (la.l true)])
 rw:∀ b,RowT H (la.l b) (rs b)
 ud:H la.ud=some (.lst (un.map V.int))
 tk:H la.tk=some (.lst (tk.map V.int))
 nl:la.l false≠la.l true
 nr:∀ b,la.l b≠la.rw
 nu:∀ b,la.l b≠la.ud
 nt:∀ b,la.l b≠la.tk
 nut:la.ud≠la.tk
 nru:la.rw≠la.ud
 nrt:la.rw≠la.tk
def LA.own (la:LA) (c:Addr):Prop:=c=la.sd\/c=la.md\/c=la.rw\/c=la.l false\/c=la.l true\/c=la.ud\/c=la.tk
theorem LA.own_l {la:LA} (b:Bool):la.own (la.l b):=by
 cases b
 · exact .inr (.inr (.inr (.inl rfl)))
 · exact .inr (.inr (.inr (.inr (.inl rfl))))
section
variable {w:World} {H H':Hp} {la:LA} {p:RP} {n:Int} {m:Mem} {rs:Bool->List Wr} {un tk:List Int}
theorem LS.keep (L:LS w H la p n m rs un tk) (k:∀ c o,la.own c->H c=some o->H' c=some o) (ht:∀ b vs,H b=some (.tup vs)->H' b=some (.tup vs)):LS w H' la p n m rs un tk:=by
 obtain ⟨M,hM,R⟩:=L.me
 exact ⟨k _ _ (.inl rfl) L.sd,⟨M,hM.keepS (λo=>k _ o (.inr (.inl rfl))) ht,R.keep ht⟩,k _ _ (.inr (.inr (.inl rfl))) L.ro,λb=>(L.rw b).keep (λo=>k _ o (LA.own_l b)) ht,k _ _ (.inr (.inr (.inr (.inr (.inr (.inl rfl)))))) L.ud,k _ _ (.inr (.inr (.inr (.inr (.inr (.inr rfl)))))) L.tk,L.nl,L.nr,L.nu,L.nt,L.nut,L.nru,L.nrt⟩
theorem LS.same (L:LS w H la p n m rs un tk) (s:Same H H'):LS w H' la p n m rs un tk:=L.keep (λc o _=>s c o) λb vs=>s b _
theorem LS.there (L:LS w H la p n m rs un tk) {c:Addr} (h:la.own c):∃ o,H c=some o/\(∀ xs,o≠.tup xs):=by
 rcases h with rfl | rfl | rfl | rfl | rfl | rfl | rfl
 · exact ⟨_,L.sd,λ_ z=>by cases z⟩
 · obtain ⟨M,hM,_⟩:=L.me
   obtain ⟨ee,e⟩:=hM.there
   exact ⟨_,e,λ_ z=>by cases z⟩
 · exact ⟨_,L.ro,λ_ z=>by cases z⟩
 · obtain ⟨ts,_,e,_⟩:=L.rw false;exact ⟨_,e,λ_ z=>by cases z⟩
 · obtain ⟨ts,_,e,_⟩:=L.rw true;exact ⟨_,e,λ_ z=>by cases z⟩
 · exact ⟨_,L.ud,λ_ z=>by cases z⟩
 · exact ⟨_,L.tk,λ_ z=>by cases z⟩
theorem LS.kp {xs:List Addr} (L:LS w H la p n m rs un tk) (k:Kp xs H H') (h:∀ c∈xs,¬ la.own c) (ht:∀ c∈xs,∀ vs,H c≠some (.tup vs)):LS w H' la p n m rs un tk :=
 L.keep (λc o hc e=>k c o (λz=>h c z hc) e) λc vs e=>k c _ (λz=>ht c z vs e) e
theorem LS.names (L:LS w H la p n m rs un tk) {b g:Bool} {i nm wt:Int} (e:rdP m (rs b) g i=some (nm,wt)):0 <= nm/\nm < 9:=by
 obtain ⟨M,_,R⟩:=L.me
 obtain ⟨ts,es,_,_,h2⟩:=L.rw b
 exact rdP_ok R h2 e
theorem LS.mem (L:LS w H la p n m rs un tk) {M:List (PyData × V)} {m':Mem} (g1:∀ c,c≠la.md->H' c=H c) (g2:MD w H' la.md M) (R:MemR H' M m'):LS w H' la p n m' rs un tk:=by
 obtain ⟨M0,hM,_⟩:=L.me
 obtain ⟨ee,hmd⟩:=hM.there
 have up:∀ {c:Addr} {o:HO},H c=some o->(∀ e:List DictEntry × Nat,o≠DObj la.md e.1 e.2)->H' c=some o:=λ{c o} e hn=>by
   rw [g1 c λz=>by rw [z,hmd] at e;exact hn ee (Option.some.inj e).symm];exact e
 have ht:∀ b vs,H b=some (.tup vs)->H' b=some (.tup vs):=λb vs e=>up e λ_ z=>by cases z
 exact ⟨up L.sd λ_ z=>(by cases z),⟨M,g2,R⟩,up L.ro λ_ z=>(by cases z),λb=>(L.rw b).keep (λo q=>by
   obtain ⟨ts,es,e,_⟩:=L.rw b
   rw [e] at q
   cases q
   exact up e λ_ z=>by cases z) ht,up L.ud λ_ z=>(by cases z),up L.tk λ_ z=>(by cases z),L.nl,L.nr,L.nu,L.nt,L.nut,L.nru,L.nrt⟩
theorem up_ne {c x:Addr} {o:HO} {xs ys:List V} (h:H c=some o) (hx:H x=some (.lst xs)) (hn:∀ ys,o≠.lst ys):upd H x (.lst ys) c=some o:=by
 rw [upd_ne λe=>by rw [e,hx] at h;exact hn xs (Option.some.inj h).symm];exact h
theorem LS.tups {x:Addr} {xs ys:List V} (hx:H x=some (.lst xs)):∀ b vs,H b=some (.tup vs)->upd H x (.lst ys) b=some (.tup vs):=λb vs e=>up_ne e hx λys z=>by cases z
theorem LS.row (L:LS w H la p n m rs un tk) (b:Bool) {ts:List V} {es:List (PyData × V)} {row:List Wr} (h1:Paired (Wt H) es ts) (h2:Paired (WrR H) row es):LS w (upd H (la.l b) (.lst ts)) la p n m (setR rs b row) un tk:=by
 obtain ⟨ts0,es0,hl,_⟩:=L.rw b
 have ht:=LS.tups (ys:=ts) hl
 obtain ⟨M,hM,R⟩:=L.me
 obtain ⟨ee,hmd⟩:=hM.there
 refine ⟨up_ne L.sd hl λys z=>(by cases z),⟨M,hM.keepS (λo e=>?_) ht,R.keep ht⟩,by rw [upd_ne λe=>L.nr b e.symm];exact L.ro,λc=>?_,by rw [upd_ne λe=>L.nu b e.symm];exact L.ud,by rw [upd_ne λe=>L.nt b e.symm];exact L.tk,L.nl,L.nr,L.nu,L.nt,L.nut,L.nru,L.nrt⟩
 · rw [hmd] at e
   cases e
   exact up_ne hmd hl λys z=>(by cases z)
 · by_cases e:c=b
   · subst e
     rw [setR_same]
     exact ⟨ts,es,upd_same,Paired.mapP h1 λ_ _ q=>q.keep ht,Paired.mapP h2 λ_ _ q=>q.keep ht⟩
   · rw [setR_ne e]
     refine (L.rw c).keep (λo q=>?_) ht
     rw [upd_ne λz=>?_]
     · exact q
     · cases c<;>cases b
       · exact e rfl
       · exact L.nl z
       · exact L.nl z.symm
       · exact e rfl
end
end L2
namespace L2
open PySem PySem.Spec PyProof.Rows
theorem inV_int (i:Int):∀ ns:List Int,inV (.int i) (ns.map V.int)=ns.contains i
 | []=>rfl
 | n :: ns=>by
   have ih:=inV_int i ns
   unfold inV at ih ⊢
   rw [List.map_cons,List.any_cons,ih,List.contains_cons]
   congr 1
   show eqV (.int n) (.int i)=(i == n)
   simp only [eqV]
   rw [Bool.eq_iff_iff,beq_iff_eq,beq_iff_eq]
   exact eq_comm
theorem atI_zero {α:Type} {x:α} {xs:List α}:atI (x :: xs) 0=some x:=by
 unfold atI ixN
 simp
theorem KeyV.lay {H:Hp} {k:PyData} {y:V} (h:KeyV H k y):LayD k:=⟨MX.kd_lay _ h.1,by have:=h.2.1;omega⟩
def freeL (n:Nat) (un:List Int):List Int:=((List.range n).map λ(k:Nat)=>(k:Int)).filter λk=>!un.contains k
end L2

namespace L2
open PySem PySem.Spec PyProof.Rows
def KO (own:Addr->Prop) (H H':Hp):Prop:=∀ c o,¬ own c->H c=some o->H' c=some o
theorem KO.refl (own:Addr->Prop) (H:Hp):KO own H H:=λ_ _ _ e=>e
theorem KO.of_kp {own:Addr->Prop} {xs:List Addr} {H H':Hp} (k:Kp xs H H') (h:∀ c∈xs,own c):KO own H H':=λc o n e=>k c o (λm=>n (h c m)) e
theorem KO.of_same {own:Addr->Prop} {H H':Hp} (s:Same H H'):KO own H H':=λc o _ e=>s c o e
theorem KO.trans {own own':Addr->Prop} {H H1 H2:Hp} (a:KO own H H1) (b:KO own' H1 H2) (h:∀ c,own' c->own c\/H c=none):KO own H H2:=λc o n e=>b c o (λz=>by
 rcases h c z with y | y
 · exact n y
 · rw [y] at e;cases e) (a c o n e)
theorem KO.mono {own own':Addr->Prop} {H H':Hp} (a:KO own H H') (h:∀ c,own c->own' c):KO own' H H':=λc o n e=>a c o (λz=>n (h c z)) e
theorem lsK_gK {la:LA} {p:RP} {n:Int} {ns:List Int}:(HO.dK (lsK la p n))≠HO.dK (gK ns):=by
 intro h
 injection h with h
 unfold lsK at h
 cases ns with
 | nil=>cases h
 | cons x xs=>cases h
section
variable {w:World} {CH CT CR CS:Addr} {H H':Hp} {z:HA} {zt:TA'} {sa:SA} {la:LA} {p:RP} {n:Int} {m:Mem} {rs:Bool->List Wr} {un tk aw:List Int} {nn:Int} {st:Addr}
theorem Hn.apart (B:Hn CH CR H z st p nn aw) (L:LS w H la p n m rs un tk) {c:Addr} (hc:la.own c):¬ z.own c:=λhz=>by
 obtain ⟨o,e,s⟩:=B.there hz
 rcases hc with rfl | rfl | rfl | rfl | rfl | rfl | rfl
 · rcases hz with y | y | y | y
   · obtain ⟨dx,q⟩:=B.ob;rw [← y,L.sd] at q;cases q
   · obtain ⟨dx,q⟩:=B.ra;rw [← y,L.sd] at q;cases q
   · obtain ⟨dx,q⟩:=B.rb;rw [← y,L.sd] at q;cases q
   · have q:=B.go;rw [← y,L.sd] at q;exact lsK_gK (Option.some.inj q)
 · obtain ⟨M,hM,_⟩:=L.me
   obtain ⟨ee,q⟩:=hM.there
   rw [e] at q;cases q
   rcases s with ⟨_,_,_,s⟩ | ⟨_,s⟩<;>cases s
 · rw [L.ro] at e;cases e
   rcases s with ⟨_,_,_,s⟩ | ⟨_,s⟩<;>cases s
 · obtain ⟨ts,_,q,_⟩:=L.rw false
   rw [q] at e;cases e
   rcases s with ⟨_,_,_,s⟩ | ⟨_,s⟩<;>cases s
 · obtain ⟨ts,_,q,_⟩:=L.rw true
   rw [q] at e;cases e
   rcases s with ⟨_,_,_,s⟩ | ⟨_,s⟩<;>cases s
 · rw [L.ud] at e;cases e
   rcases s with ⟨_,_,_,s⟩ | ⟨_,s⟩<;>cases s
 · rw [L.tk] at e;cases e
   rcases s with ⟨_,_,_,s⟩ | ⟨_,s⟩<;>cases s
theorem Tn.apart (B:Tn CT CR H zt st p aw) (L:LS w H la p n m rs un tk) {c:Addr} (hc:la.own c):¬ zt.own c:=λhz=>by
 obtain ⟨o,e,s⟩:=B.there hz
 rcases hc with rfl | rfl | rfl | rfl | rfl | rfl | rfl
 · rcases hz with y | y | y | y
   · obtain ⟨dx,q⟩:=B.ob;rw [← y,L.sd] at q;cases q
   · obtain ⟨dx,q⟩:=B.ra;rw [← y,L.sd] at q;cases q
   · obtain ⟨dx,q⟩:=B.rb;rw [← y,L.sd] at q;cases q
   · have q:=B.go;rw [← y,L.sd] at q;exact lsK_gK (Option.some.inj q)
 · obtain ⟨M,hM,_⟩:=L.me
   obtain ⟨ee,q⟩:=hM.there
   rw [e] at q;cases q
   rcases s with ⟨_,_,_,s⟩ | ⟨_,s⟩<;>cases s
 · rw [L.ro] at e;cases e
   rcases s with ⟨_,_,_,s⟩ | ⟨_,s⟩<;>cases s
 · obtain ⟨ts,_,q,_⟩:=L.rw false
   rw [q] at e;cases e
   rcases s with ⟨_,_,_,s⟩ | ⟨_,s⟩<;>cases s
 · obtain ⟨ts,_,q,_⟩:=L.rw true
   rw [q] at e;cases e
   rcases s with ⟨_,_,_,s⟩ | ⟨_,s⟩<;>cases s
 · rw [L.ud] at e;cases e
   rcases s with ⟨_,_,_,s⟩ | ⟨_,s⟩<;>cases s
 · rw [L.tk] at e;cases e
   rcases s with ⟨_,_,_,s⟩ | ⟨_,s⟩<;>cases s
end
def scD:PyData->Bool
 | .none=>true
 | .bool _=>true
 | .int _=>true
 | .str _=>true
 | _=>false
def flD:PyData->Bool
 | .tuple ds=>ds.all scD
 | d=>scD d
theorem DV.sc {H H':Hp}:∀ {d:PyData} {v:V},scD d=true->DV H d v->DV H' d v
 | .none,_,_,h=>h
 | .bool _,_,_,h=>h
 | .int _,_,_,h=>h
 | .str _,_,_,h=>h
 | .list _,_,h,_=>by cases h
 | .tuple _,_,h,_=>by cases h
 | .dict _,_,h,_=>by cases h
theorem DVs.sc {H H':Hp}:∀ {ds:List PyData} {vs:List V},ds.all scD=true->DVs H ds vs->DVs H' ds vs
 | [],_,_,h=>h
 | d :: ds,_,h,⟨v,r,e,h1,h2⟩=>by
   rw [List.all_cons,Bool.and_eq_true] at h
   exact ⟨v,r,e,DV.sc h.1 h1,DVs.sc h.2 h2⟩
theorem DV.fl {H H':Hp} (ht:∀ b vs,H b=some (.tup vs)->H' b=some (.tup vs)):∀ {d:PyData} {v:V},flD d=true->DV H d v->DV H' d v
 | .none,_,_,h=>h
 | .bool _,_,_,h=>h
 | .int _,_,_,h=>h
 | .str _,_,_,h=>h
 | .list _,_,h,_=>by cases h
 | .tuple ds,_,h,⟨a,vs,e,ha,hv⟩=>⟨a,vs,e,ht _ _ ha,DVs.sc h hv⟩
 | .dict _,_,h,_=>by cases h
def Nms (k:Int) (ns:List Int):Prop:=ns.Nodup/\∀ x∈ns,0 <= x/\x < k
theorem Nms.nil (k:Int):Nms k []:=⟨List.nodup_nil,λ_ h=>by cases h⟩
theorem Nms.len {k:Int} {ns:List Int} (h:Nms k ns) (hk:k <= 9):ns.length <= 9:=by
 have:=nodup_le (l:=ns) (ks:=[0,1,2,3,4,5,6,7,8]) h.1 λx hx=>by
   have:=h.2 x hx
   have:x=0\/x=1\/x=2\/x=3\/x=4\/x=5\/x=6\/x=7\/x=8:=by omega
   simp only [List.mem_cons,List.not_mem_nil,or_false]
   exact this
 exact this
theorem Nms.snoc {k x:Int} {ns:List Int} (h:Nms k ns) (hx:ns.contains x=false) (hb:0 <= x/\x < k):Nms k (ns++[x]):=by
 refine ⟨?_,λy hy=>?_⟩
 · rw [List.nodup_append]
   refine ⟨h.1,List.nodup_cons.mpr ⟨by simp,List.nodup_nil⟩,λa ha b hb' e=>?_⟩
   rw [List.mem_singleton.mp hb'] at e
   rw [List.contains_eq_mem,decide_eq_false_iff_not] at hx
   exact hx (e ▸ ha)
 · rcases List.mem_append.mp hy with z | z
   · exact h.2 y z
   · rw [List.mem_singleton.mp z];exact hb
theorem Nms.filter {k x:Int} {ns:List Int} (h:Nms k ns):Nms k (ns.filter λy=>decide (y≠x)) :=
 ⟨List.Pairwise.filter _ h.1,λy hy=>h.2 y (List.mem_filter.mp hy).1⟩
theorem Nms.next {k x:Int} {ns:List Int} (h:Nms k ns) (hb:0 <= x/\x < k):Nms k (gNext ns x):=by
 unfold gNext
 cases e:ns.contains x with
 | true=>exact h
 | false=>exact h.snoc e hb
theorem Nms.erase {k x:Int} {ns:List Int} (h:Nms k ns):Nms k (ns.erase x) :=
 ⟨List.Nodup.erase x h.1,λy hy=>h.2 y (List.mem_of_mem_erase hy)⟩
end L2

namespace L2
open PySem PySem.Spec PyProof.Rows
section
variable {X:Cx}
def isBv (k:Bool):Value->Bool
 | .bool b=>b == k
 | _=>false
def rCountB:V->List V->Hp->VK->Prop:=λx vs H Q=>∃ (l:Addr) (bs:List Bool) (k:Bool),x=.ref l/\vs=[.bl k]/\H l=some (.lst (bs.map V.bl))/\Q (.int (bs.count k:Nat)) H
def rIndexB:V->List V->Hp->VK->Prop:=λx vs H Q=>∃ (l:Addr) (bs:List Bool) (k:Bool),x=.ref l/\vs=[.bl k]/\H l=some (.lst (bs.map V.bl))/\k∈bs/\Q (.int (bs.idxOf k:Nat)) H
end
end L2

namespace L2
open PySem PySem.Spec PyProof.Rows
section
variable {X:Cx}
def rngO (x:Addr) (lo hi:Int):HO:=.ext λh=>∃ t u v,IsRange h x lo hi 1 t u v
def rngV (lo:Int) (n:Nat):List V:=(List.range n).map λ(j:Nat)=>V.int (lo+j)
end
end L2

namespace L2
open PySem PySem.Spec PyProof.Rows
def ltS (a b:Str):Prop:=a.cps.toList < b.cps.toList
def leS (a b:Str):Prop:=¬ ltS b a
section
variable {X:Cx} {pins:List (Addr × Obj)} {σ:St} {H:Hp} {s:Shared}
def epO (D:Addr) (o:Obj):HO:=.ext λh=>h.get? D=some o
def tSortK (K:PySem.W.Frag) (sp:Sp) (ta:TE):TE:=λσ H Q=>ta σ H λx H1=>∃ (l:Addr) (xs:List V) (ks:List Str),x=.ref l/\SqL K H1 l xs/\ks.length=xs.length/\xs.length < 64 /\
 (∀ (i:Nat) (x:V) (key:Str),xs[i]?=some x->ks[i]?=some key->∀ H',Same H1 H'->sp [x] H' (λv H''=>v=.str key/\Same H' H'') E0) /\
 ∀ D H' (ps:List (Str × V)),H1 D=none->Same H1 H'->H' D=some (.lst (ps.map (·.2)))->ps.Perm (ks.zip xs)->ps.Pairwise (λp q=>leS p.1 q.1)->Q (.ref D) H'
end
end L2

namespace L2
open PySem PySem.Spec PyProof.Rows
def TabK (K:PySem.W.Frag) (a:Addr) (D:List (Str × Addr)):Prop:=(a == sysModules)=false/\∃ o es ep,K.lookup a=some o/\o.ExactDict/\o.data=.dict es ep/\KTD.Rows (λ(b:Addr) (v:Value)=>v=.ref b) es.toList D
section
variable {X:Cx} {pins:List (Addr × Obj)} {σ:St} {H:Hp} {s:Shared}
theorem dictGet_tab {A:Around} {E:Value->Shared->Prop} {a:Addr} {D:List (Str × Addr)} {k:Str} {tk:Tok} {o:Obj} {es:Array DictEntry} {ep:Nat} {prog:Program} {w:World} {s:Shared} {Q:Option Value->Shared->Prop} (ho:s.heap.get? a=some o) (hd:o.data=.dict es ep) (hr:KTD.Rows (λ(b:Addr) (v:Value)=>v=.ref b) es.toList D)
   (h1:Q ((KTD.datumAt k D).map Value.ref) { s with toks:=s.toks+1 }):wpAny (model prog w) A (dictGet a (.str k tk)) Q E s:=by
 unfold dictGet
 try with_reducible refine wpAny_holding ?_
 refine wpAny_bind (wpAny_pyHash_str (wpAny_bind (KTD.kt_dictFind_strs (s:={ s with toks:=s.toks+1 }) ho hd (by obtain ⟨l⟩:=es;simpa using hr.exact) ?_)))
 have hq:Q (findBy (λk v=>v.isStr k) es k) { s with toks:=s.toks+1 }:=by
   have hf:findBy (λk v=>v.isStr k) es k=(es.toList.find? λe=>e.key.isStr k).map (·.val):=by
     obtain ⟨l⟩:=es
     simp [findBy]
   rw [hf]
   cases hat:KTD.datumAt k D with
   | some d =>
     obtain ⟨v,hv,hfl⟩:=hr.find_some hat
     rw [hv,hfl]
     rw [hat] at h1
     exact h1
   | none =>
     rw [hr.find_none hat]
     rw [hat] at h1
     exact h1
 rw [findBy_of_findIdx?] at hq
 cases hi:es.findIdx? λe=>e.key.isStr k with
 | none=>rw [hi] at hq;exact wpAny_pure hq
 | some i=>rw [hi] at hq;exact wpAny_bind (wpAny_dictEntries (s:={ s with toks:=s.toks+1 }) ho hd (wpAny_pure hq))
def optR:Option Addr->V
 | some b=>.ref b
 | none=>.non
def tTabGet (D:List (Str × Addr)) (ty:TE):TE:=λσ H Q=>ty σ H λy H1=>∃ k,y=.str k/\Q (optR (KTD.datumAt k D)) H1
theorem pe_tabget {T:Str} {a:Addr} {D:List (Str × Addr)} {e:Expr} {ty:TE} {p apos cpos:Pos} (hg:Gl X T) (hm:X.mg T=some (.ref a)) (ht:TabK X.K a D) (he:PE X e ty) (m:M1 X (.Name T p) "get" apos e cpos) (hdb:(T == ("__debug__":Str))=false:=by decide):PE X (.Call (.Attribute (.Name T p) "get" apos) [e] [] cpos) (tTabGet D ty):=by
 intro pins s σ H Q I h
 obtain ⟨hs,o,es,ep,hl,hx,hd,hr⟩:=ht
 have ho:∀ {s':Shared} {H':Hp},Inv X pins σ H' s'->s'.heap.get? a=some o:=λI'=>I'.kIn a o hl
 refine wpAny_Call_method m.base m.few m.line PySem.F.plainAttrs_dict PySem.F.slot_dict_get PySem.F.type_dict_get (ld_glob I hg hm ?_ hdb)
 refine ⟨⟨o,ho I,hx.1⟩,?_,?_⟩
 · intro b q;cases q;exact ⟨o,ho I,hx.2.1⟩
 · rw [m.trees]
   refine Calls.callWith_builtin rfl (Calls.evalArgs_plain (Calls.spliced_cons (thn (he pins s σ H _ I h) λiv s2 ⟨y,H2,I2,ry,k,ey,q2⟩=>Calls.spliced_nil ?_)))
   subst ey
   obtain ⟨t,rfl⟩:=ry
   refine wpAny_call_entry PySem.F.slot_dict_get ⟨o,ho I2,hx.1⟩ PySem.F.entry_dict_get ?_ (PySem.F.args_dict_get_2 _ _)
   show wpAny _ _ (dictGet a (.str k t) >>= _) _ _ s2
   refine wpAny_bind (dictGet_tab (ho I2) hd hr ?_)
   cases hat:KTD.datumAt k D with
   | some b =>
     rw [hat] at q2
     exact wpAny_pure ⟨_,rfl,.ref b,H2,I2.tok _,rfl,q2⟩
   | none =>
     rw [hat] at q2
     show wpAny _ _ (Builtin.Dict.missed a (.str k t) >>= _) _ _ _
     exact wpAny_bind (wpAny_missed_other hs (wpAny_pure ⟨.none,rfl,.non,H2,I2.tok _,rfl,q2⟩))
end
end L2

namespace L2
open PySem PySem.Spec PyProof.Rows
section
variable {X:Cx}
theorem walks_list {prog:Program} {w:World} {A:Around} {I l:Addr} {items:Array Value} (hh:A.handled=none) (hIl:I≠l) :
   Walks prog w A I [I,l] [I] items.size (λi v=>items[i]?=some v) (λi h=>h.IsListIter I l i/\h.IsList l items) where
 sub b hb:=by rw [List.mem_singleton.mp hb];exact List.mem_cons_self
 frame i h h' st k:=by
   obtain ⟨⟨o,ho,r⟩,⟨ol,hol,rl⟩⟩:=st
   exact ⟨⟨o,k I List.mem_cons_self _ ho,r⟩,⟨ol,k l (List.mem_cons_of_mem _ List.mem_cons_self) _ hol,rl⟩⟩
 item i s Q E hi st k:=by
   refine wpAny_pyNext_list_item st.1 st.2 (Array.getElem?_eq_getElem hi) λh' it' sb=>k _ h' s.toks (Array.getElem?_eq_getElem hi) ⟨it',?_⟩ λb o hb e=>(sb.2 b (λy=>hb (by rw [y];exact List.mem_singleton.mpr rfl))).trans e
   obtain ⟨ol,hol,rl⟩:=st.2
   exact ⟨ol,(sb.2 l (Ne.symm hIl)).trans hol,rl⟩
 done s Q E st k:=by
   refine wpAny_pyNext_list_end hh st.1 st.2 (by rw [Array.getElem?_eq_none_iff];exact Nat.le_refl _) λh' eb=>k h' s.toks λb o hb e=>?_
   exact eb b o (λy=>hb (by rw [y];exact List.mem_singleton.mpr rfl)) e
 self i s Q E st k:=wpAny_pyIter_listiter st.1 k
theorem bools_of2:∀ {bs:List Bool} {us:List Value},Vals (bs.map V.bl) us->us=bs.map Value.bool
 | [],_,.nil=>rfl
 | b :: bs,_,.cons r t=>by
   have r':_=Value.bool b:=r
   rw [r',bools_of2 t];rfl
theorem bt_all:bootBuiltins "all"=some (.builtin "all"):=by decide +kernel
theorem call_all (hc:X.calm=true):CallR X (.builtin "all") (λxs H Q=>∃ (p:Addr) (bs:List Bool),xs=[.ref p]/\SqL X.K H p (bs.map V.bl)/\Q (.bl (bs.all id)) H):=by
 intro pins s σ H xs us Q I r h
 obtain ⟨p,bs,rfl,hq,q⟩:=h
 obtain ⟨u,rfl,rx⟩:=vals1 r
 cases rx
 obtain ⟨its,r',pl,hz⟩:=I.list hq
 have hb:=bools_of2 r'
 have il:=pl.isList
 refine call_all_walk (wpAny_pyIter_list il ⟨s.heap.objs.size,_,_,_,_,_,λi=>bs.getD i true,rfl,walks_list (I:=s.heap.objs.size) (l:=p) (items:=its.toArray) (I.ok.hd hc) ?_,⟨⟨_,Heap.get?_push_size _ rfl,rfl,rfl⟩,?_⟩,?_,?_⟩)
 · obtain ⟨o,ho,_⟩:=il
   exact Ne.symm (Nat.ne_of_lt (Heap.lt_size ho))
 · obtain ⟨o,ho,rr⟩:=il
   exact ⟨o,Heap.get?_push_of_some _ ho,rr⟩
 · intro i v s' Q' E' hv hq'
   have hv':its[i]?=some v:=by rw [← hv];simp
   rw [hb,List.getElem?_map] at hv'
   obtain ⟨b,hbi,rfl⟩:=Option.map_eq_some_iff.mp hv'
   have:bs.getD i true=b:=by rw [List.getD_eq_getElem?_getD,hbi];rfl
   have hq2:Q' (bs.getD i true) s':=hq'
   rw [this] at hq2
   exact wpAny_truthy_bool hq2
 · intro h' tk k
   have e:((List.range its.toArray.size).all λi=>bs.getD i true)=bs.all id:=by
     have hl:its.toArray.size=bs.length:=by rw [List.size_toArray,hb,List.length_map]
     rw [hl,Bool.eq_iff_iff,List.all_eq_true,List.all_eq_true]
     constructor
     · intro h x hx
       obtain ⟨i,hi,rfl⟩:=List.getElem_of_mem hx
       have:=h i (List.mem_range.mpr hi)
       rw [List.getD_eq_getElem?_getD,List.getElem?_eq_getElem hi] at this
       exact this
     · intro h i hi
       have hi':=List.mem_range.mp hi
       rw [List.getD_eq_getElem?_getD,List.getElem?_eq_getElem hi']
       exact h _ (List.getElem_mem hi')
   rw [e]
   refine ⟨.bl (bs.all id),H,I.kept λb o hb=>k b o (λy=>?_) (Heap.get?_push_of_some _ hb),rfl,q⟩
   rw [List.mem_singleton] at y
   have:=Heap.lt_size hb
   rw [y] at this
   exact Nat.lt_irrefl _ this
end
end L2

namespace L2
open PySem PySem.Spec PyProof.Rows
section
variable {X:Cx}
def rJoin (K:PySem.W.Frag):V->List V->Hp->VK->Prop:=λx vs H Q=>∃ (sep:Str) (p:Addr) (ys:List Str),x=.str sep/\vs=[.ref p]/\SqL K H p (ys.map V.str)/\(ys.map (·.length)).sum+ys.length * sep.length <= 16777216/\Q (.str (Txt.join sep ys)) H
end
end L2
namespace L2
open PySem PySem.Spec PyProof.Rows
theorem pe_globI {X:Cx} {x:Str} {i:Int} {p:Pos} (hg:Gl X x) (hm:∃ t,X.mg x=some (.int i t)) (hdb:(x == ("__debug__":Str))=false:=by decide):PE X (.Name x p) (tC (.int i)):=by
 obtain ⟨t,hm⟩:=hm
 intro pins s σ H Q I h
 exact ld_glob I hg hm ⟨.int i,H,I,⟨t,rfl⟩,h⟩ hdb
end L2

namespace L2
open PySem PySem.Spec PyProof.Rows
def own5 (z:HA) (zt:TA') (sa:SA) (c:Addr):Prop:=z.own c\/zt.own c\/sa.own c
def own6 (z:HA) (zt:TA') (sa:SA) (g:Addr) (c:Addr):Prop:=own5 z zt sa c\/c=g
structure X5 (w:World) (CH CT CR CS:Addr) (H:Hp) (z:HA) (zt:TA') (sa:SA) (p:RP) (n:Nat) (m:Mem) (rs:Bool->List Wr) (un tk:List Int):Prop where
 hn:Hn CH CR H z sa.x p n un
 tn:Tn CT CR H zt sa.x p tk
 st:StT w CS H sa m rs
 dz:∀ c,z.own c->¬ zt.own c
section
variable {w:World} {CH CT CR CS:Addr} {H H':Hp} {z:HA} {zt:TA'} {sa:SA} {p:RP} {n:Nat} {m m':Mem} {rs rs':Bool->List Wr} {un tk un' tk':List Int}
theorem X5.keep (W:X5 w CH CT CR CS H z zt sa p n m rs un tk) (k:∀ c o,own5 z zt sa c->H c=some o->H' c=some o) (ht:∀ b vs,H b=some (.tup vs)->H' b=some (.tup vs)):X5 w CH CT CR CS H' z zt sa p n m rs un tk :=
 ⟨W.hn.keep λc o h=>k c o (.inl h),W.tn.keep λc o h=>k c o (.inr (.inl h)),W.st.keep (λc o h=>k c o (.inr (.inr h))) ht,W.dz⟩
theorem X5.same (W:X5 w CH CT CR CS H z zt sa p n m rs un tk) (s':Same H H'):X5 w CH CT CR CS H' z zt sa p n m rs un tk:=W.keep (λc o _=>s' c o) λb vs=>s' b _
theorem X5.there (W:X5 w CH CT CR CS H z zt sa p n m rs un tk) {c:Addr} (h:own5 z zt sa c):∃ o,H c=some o/\∀ vs,o≠.tup vs:=by
 rcases h with h | h | h
 · obtain ⟨o,e,⟨_,_,_,s⟩ | ⟨_,s⟩⟩:=W.hn.there h
   · exact ⟨o,e,λvs y=>by rw [y] at s;cases s⟩
   · exact ⟨o,e,λvs y=>by rw [y] at s;cases s⟩
 · obtain ⟨o,e,⟨_,_,_,s⟩ | ⟨_,s⟩⟩:=W.tn.there h
   · exact ⟨o,e,λvs y=>by rw [y] at s;cases s⟩
   · exact ⟨o,e,λvs y=>by rw [y] at s;cases s⟩
 · exact W.st.there h
theorem hn_l5 {p:RP} {st:Addr} {nn:Int} {aw:List Int} (B:Hn CH CR H z st p nn aw) (S:StT w CS H sa m rs) (b:Bool):¬ z.own (sa.l b):=λhc=>by
 obtain ⟨o1,q1,s1⟩:=B.there hc
 obtain ⟨M,r,S',_⟩:=S
 obtain ⟨ts,e,_⟩:=S'.rw b
 rw [e] at q1
 cases q1
 rcases s1 with ⟨_,_,_,s⟩ | ⟨_,s⟩<;>cases s
theorem tn_l5 {p:RP} {st:Addr} {aw:List Int} (B:Tn CT CR H zt st p aw) (S:StT w CS H sa m rs) (b:Bool):¬ zt.own (sa.l b):=λhc=>by
 obtain ⟨o1,q1,s1⟩:=B.there hc
 obtain ⟨M,r,S',_⟩:=S
 obtain ⟨ts,e,_⟩:=S'.rw b
 rw [e] at q1
 cases q1
 rcases s1 with ⟨_,_,_,s⟩ | ⟨_,s⟩<;>cases s
theorem X5.tups (W:X5 w CH CT CR CS H z zt sa p n m rs un tk) {xs:List Addr} (kp:Kp xs H H') (h:∀ c∈xs,own5 z zt sa c):∀ b vs,H b=some (.tup vs)->H' b=some (.tup vs):=λb vs e=>kp b _ (λmm=>by
 obtain ⟨o,e',nn⟩:=W.there (h b mm)
 rw [e'] at e;exact nn vs (Option.some.inj e)) e
theorem own5_h:∀ c∈[z.gd,sa.l false],own5 z zt sa c:=λc hc=>by
 rcases List.mem_cons.mp hc with y | y
 · rw [y];exact .inl (.inr (.inr (.inr rfl)))
 · rw [List.mem_singleton.mp y];exact .inr (.inr (own_l false))
theorem own5_t:∀ c∈[zt.gd,sa.l true],own5 z zt sa c:=λc hc=>by
 rcases List.mem_cons.mp hc with y | y
 · rw [y];exact .inr (.inl (.inr (.inr (.inr rfl))))
 · rw [List.mem_singleton.mp y];exact .inr (.inr (own_l true))
theorem own5_s {b:Bool}:∀ c∈[sa.l b,sa.hd],own5 z zt sa c:=λc hc=>by
 rcases List.mem_cons.mp hc with y | y
 · rw [y];exact .inr (.inr (own_l b))
 · rw [List.mem_singleton.mp y];exact .inr (.inr own_hd)
theorem X5.hand (W:X5 w CH CT CR CS H z zt sa p n m rs un tk) (hn':Hn CH CR H' z sa.x p n un') (st':StT w CS H' sa m' rs') (kp:Kp [z.gd,sa.l false] H H'):X5 w CH CT CR CS H' z zt sa p n m' rs' un' tk:=by
 refine ⟨hn',W.tn.keep λc o hc e=>kp c o (λmm=>?_) e,st',W.dz⟩
 rcases List.mem_cons.mp mm with y | y
 · exact W.dz c (by rw [y];exact .inr (.inr (.inr rfl))) hc
 · exact tn_l5 W.tn W.st false (by rw [← List.mem_singleton.mp y];exact hc)
theorem X5.heart (W:X5 w CH CT CR CS H z zt sa p n m rs un tk) (tn':Tn CT CR H' zt sa.x p tk') (st':StT w CS H' sa m' rs') (kp:Kp [zt.gd,sa.l true] H H'):X5 w CH CT CR CS H' z zt sa p n m' rs' un tk':=by
 refine ⟨W.hn.keep λc o hc e=>kp c o (λmm=>?_) e,tn',st',W.dz⟩
 rcases List.mem_cons.mp mm with y | y
 · exact W.dz c hc (by rw [y];exact .inr (.inr (.inr rfl)))
 · exact hn_l5 W.hn W.st true (by rw [← List.mem_singleton.mp y];exact hc)
theorem X5.store (W:X5 w CH CT CR CS H z zt sa p n m rs un tk) {b:Bool} (st':StT w CS H' sa m' rs') (kp:Kp [sa.l b,sa.hd] H H'):X5 w CH CT CR CS H' z zt sa p n m' rs' un tk:=by
 have hx:∀ c∈[sa.l b,sa.hd],(∃ ys,H c=some (.lst ys))\/∃ ee:List DictEntry × Nat,H c=some (DObj c ee.1 ee.2):=λc hc=>by
   obtain ⟨M,r,S,_⟩:=W.st
   rcases List.mem_cons.mp hc with y | y
   · obtain ⟨ts,e,_⟩:=S.rw b
     exact .inl ⟨ts,by rw [y];exact e⟩
   · obtain ⟨ee,e⟩:=S.me.there
     exact .inr ⟨ee,by rw [List.mem_singleton.mp y];exact e⟩
 exact ⟨W.hn.lists kp hx,W.tn.lists kp hx,st',W.dz⟩
end
theorem DV2 {H:Hp} {c:Addr} {x y:Int} (h:H c=some (.tup [.int x,.int y])):DV H (.tuple [.int x,.int y]) (.ref c):=⟨c,_,rfl,h,_,_,rfl,rfl,_,_,rfl,rfl,rfl⟩
theorem dvs_len {H:Hp}:∀ {ds:List PyData} {ts:List V},DVs H ds ts->ts.length=ds.length
 | [],_,h=>by cases h;rfl
 | d :: ds,_,⟨v,r,h,h1,h2⟩=>by subst h;rw [List.length_cons,List.length_cons,dvs_len h2]
theorem atI_at {xs:List V} {j:Nat} {v:V} (h:xs[j]?=some v):atI xs (j:Int)=some v:=by
 unfold atI ixN
 have hl:=(List.getElem?_eq_some_iff.mp h).1
 rw [if_pos (by omega),if_pos (by omega)]
 exact h
end L2

namespace L2
open PySem PySem.Spec PyProof.Rows
inductive Bd where
 | up | lies | asleep
instance:DecidableEq Bd:=λa b=>by
 cases a<;>cases b<;>first | exact isTrue rfl | exact isFalse (λh=>by cases h)
def Bd.key:Bd->Str
 | .up=>"up"
 | .lies=>"lies"
 | .asleep=>"asleep"
theorem bd_inj {a b:Bd} (h:a.key=b.key):a=b:=by
 cases a<;>cases b<;>first | rfl | exact absurd h (by decide +kernel)
structure YP where
 p:RP
 n:Nat
 fb:Bool
 fl:Bool
 fk:Bool
structure YP.Ok (q:YP):Prop where
 ok:q.p.Ok
 n9:q.n <= 9
structure YA where
 y:Addr
 ft:Addr
 sa:SA
 z:HA
 zt:TA'
 sl:Addr
 qu:Addr
 hp:Addr
structure YS where
 m:Mem
 rs:Bool->List Wr
 un:List Int
 tk:List Int
 bd:Bool->Bd
 qt:Bool->Bool
 hs:List PyData
def YS.zero:YS:=⟨Mem.zero,λ_=>[],[],[],λ_=>.up,λ_=>true,[]⟩
def yF (a:YA) (q:YP):List (Str × V):=putF "happened" (.ref a.hp) (putF "quiet" (.ref a.qu) (putF "sleepers" (.ref a.sl) (putF "look_sees" (.bl q.fk) (putF "lie_fences" (.bl q.fl) (putF "bell_fences" (.bl q.fb) (putF "heart" (.ref a.zt.h) (putF "hand" (.ref a.z.h) (putF "shelf" (.ref a.sa.x) (putF "faults" (.ref a.ft) (putF "rounds" (.int q.p.R) (putF "size" (.int q.p.s) [])))))))))))
section
variable {a:YA} {q:YP}
theorem yF_shelf:(yF a q).lookup ("shelf":Str)=some (.ref a.sa.x):=by unfold yF;repeat (first | rw [lookup_putF,if_pos rfl] | rw [lookup_putF,if_neg (by decide +kernel)]);try rfl
theorem yF_hand:(yF a q).lookup ("hand":Str)=some (.ref a.z.h):=by unfold yF;repeat (first | rw [lookup_putF,if_pos rfl] | rw [lookup_putF,if_neg (by decide +kernel)]);try rfl
theorem yF_heart:(yF a q).lookup ("heart":Str)=some (.ref a.zt.h):=by unfold yF;repeat (first | rw [lookup_putF,if_pos rfl] | rw [lookup_putF,if_neg (by decide +kernel)]);try rfl
theorem yF_bell:(yF a q).lookup ("bell_fences":Str)=some (.bl q.fb):=by unfold yF;repeat (first | rw [lookup_putF,if_pos rfl] | rw [lookup_putF,if_neg (by decide +kernel)]);try rfl
theorem yF_lie:(yF a q).lookup ("lie_fences":Str)=some (.bl q.fl):=by unfold yF;repeat (first | rw [lookup_putF,if_pos rfl] | rw [lookup_putF,if_neg (by decide +kernel)]);try rfl
theorem yF_look:(yF a q).lookup ("look_sees":Str)=some (.bl q.fk):=by unfold yF;repeat (first | rw [lookup_putF,if_pos rfl] | rw [lookup_putF,if_neg (by decide +kernel)]);try rfl
theorem yF_sleepers:(yF a q).lookup ("sleepers":Str)=some (.ref a.sl):=by unfold yF;repeat (first | rw [lookup_putF,if_pos rfl] | rw [lookup_putF,if_neg (by decide +kernel)]);try rfl
theorem yF_quiet:(yF a q).lookup ("quiet":Str)=some (.ref a.qu):=by unfold yF;repeat (first | rw [lookup_putF,if_pos rfl] | rw [lookup_putF,if_neg (by decide +kernel)]);try rfl
theorem yF_happened:(yF a q).lookup ("happened":Str)=some (.ref a.hp):=by unfold yF;repeat (first | rw [lookup_putF,if_pos rfl] | rw [lookup_putF,if_neg (by decide +kernel)]);try rfl
theorem yF_no {f:Str} (h:f ∉ (["size","rounds","faults","shelf","hand","heart","bell_fences","lie_fences","look_sees","sleepers","quiet","happened"]:List Str)):(yF a q).lookup f=none:=by
 simp only [List.mem_cons,List.not_mem_nil,or_false,not_or] at h
 obtain ⟨h1,h2,h3,h4,h5,h6,h7,h8,h9,h10,h11,h12⟩:=h
 unfold yF
 rw [lookup_putF,if_neg h12,lookup_putF,if_neg h11,lookup_putF,if_neg h10,lookup_putF,if_neg h9,lookup_putF,if_neg h8,lookup_putF,if_neg h7,lookup_putF,if_neg h6,lookup_putF,if_neg h5,lookup_putF,if_neg h4,lookup_putF,if_neg h3,lookup_putF,if_neg h2,lookup_putF,if_neg h1]
 rfl
end
def YA.lists (a:YA) (c:Addr):Prop:=c=a.sl\/c=a.qu\/c=a.hp
def YA.own (a:YA) (c:Addr):Prop:=c=a.y\/own5 a.z a.zt a.sa c\/a.lists c
structure Yn (w:World) (CY CH CT CR CS:Addr) (H:Hp) (a:YA) (q:YP) (S:YS):Prop where
 ob:∃ dx,H a.y=some (.ins CY dx (yF a q))
 x:X5 w CH CT CR CS H a.z a.zt a.sa q.p q.n S.m S.rs S.un S.tk
 sl:H a.sl=some (.lst [.str (S.bd false).key,.str (S.bd true).key])
 qu:H a.qu=some (.lst [.bl (S.qt false),.bl (S.qt true)])
 hp:∃ ts,H a.hp=some (.lst ts)/\DVs H S.hs ts
 fl:∀ d∈S.hs,flD d=true
 d1:∀ c,a.lists c->¬ own5 a.z a.zt a.sa c
 d2:a.sl≠a.qu/\a.sl≠a.hp/\a.qu≠a.hp
 d3:¬ own5 a.z a.zt a.sa a.y
theorem DVs.fl {H H':Hp} (ht:∀ b vs,H b=some (.tup vs)->H' b=some (.tup vs)):∀ {ds:List PyData} {vs:List V},(∀ d∈ds,flD d=true)->DVs H ds vs->DVs H' ds vs
 | [],_,_,h=>h
 | d :: ds,_,hf,⟨v,r,e,h1,h2⟩=>⟨v,r,e,DV.fl ht (hf d List.mem_cons_self) h1,DVs.fl ht (λx hx=>hf x (List.mem_cons_of_mem _ hx)) h2⟩
section
variable {w:World} {CY CH CT CR CS:Addr} {H H':Hp} {a:YA} {q:YP} {S:YS}
theorem Yn.keep (Y:Yn w CY CH CT CR CS H a q S) (k:∀ c o,a.own c->H c=some o->H' c=some o) (ht:∀ b vs,H b=some (.tup vs)->H' b=some (.tup vs)):Yn w CY CH CT CR CS H' a q S:=by
 obtain ⟨dx,hx⟩:=Y.ob
 obtain ⟨ts,h1,h2⟩:=Y.hp
 exact ⟨⟨dx,k _ _ (.inl rfl) hx⟩,Y.x.keep (λc o h=>k c o (.inr (.inl h))) ht,k _ _ (.inr (.inr (.inl rfl))) Y.sl,k _ _ (.inr (.inr (.inr (.inl rfl)))) Y.qu,⟨ts,k _ _ (.inr (.inr (.inr (.inr rfl)))) h1,DVs.fl ht Y.fl h2⟩,Y.fl,Y.d1,Y.d2,Y.d3⟩
theorem Yn.same (Y:Yn w CY CH CT CR CS H a q S) (s:Same H H'):Yn w CY CH CT CR CS H' a q S:=Y.keep (λc o _=>s c o) λb vs=>s b _
theorem Yn.list (Y:Yn w CY CH CT CR CS H a q S) {c:Addr} (h:a.lists c):∃ ys,H c=some (.lst ys):=by
 rcases h with rfl | rfl | rfl
 · exact ⟨_,Y.sl⟩
 · exact ⟨_,Y.qu⟩
 · obtain ⟨ts,e,_⟩:=Y.hp;exact ⟨_,e⟩
theorem Yn.there (Y:Yn w CY CH CT CR CS H a q S) {c:Addr} (h:a.own c):∃ o,H c=some o/\∀ vs,o≠.tup vs:=by
 rcases h with rfl | h | h
 · obtain ⟨dx,e⟩:=Y.ob;exact ⟨_,e,λ_ z=>by cases z⟩
 · exact Y.x.there h
 · obtain ⟨ys,e⟩:=Y.list h;exact ⟨_,e,λ_ z=>by cases z⟩
theorem Yn.tups (Y:Yn w CY CH CT CR CS H a q S) {xs:List Addr} (kp:Kp xs H H') (h:∀ c∈xs,a.own c):∀ b vs,H b=some (.tup vs)->H' b=some (.tup vs):=λb vs e=>kp b _ (λmm=>by
 obtain ⟨o,e',nn⟩:=Y.there (h b mm)
 rw [e'] at e;exact nn vs (Option.some.inj e)) e
theorem Yn.parts (Y:Yn w CY CH CT CR CS H a q S) {xs:List Addr} {m:Mem} {rs:Bool->List Wr} {un tk:List Int} (X':X5 w CH CT CR CS H' a.z a.zt a.sa q.p q.n m rs un tk) (kp:Kp xs H H') (h:∀ c∈xs,own5 a.z a.zt a.sa c):Yn w CY CH CT CR CS H' a q { S with m:=m,rs:=rs,un:=un,tk:=tk }:=by
 have ht:=Y.tups kp λc hc=>.inr (.inl (h c hc))
 obtain ⟨dx,hx⟩:=Y.ob
 obtain ⟨ts,h1,h2⟩:=Y.hp
 have ls:∀ c o,a.lists c->H c=some o->H' c=some o:=λc o hc e=>kp c o (λmm=>Y.d1 c hc (h c mm)) e
 exact ⟨⟨dx,kp _ _ (λmm=>Y.d3 (h _ mm)) hx⟩,X',ls _ _ (.inl rfl) Y.sl,ls _ _ (.inr (.inl rfl)) Y.qu,⟨ts,ls _ _ (.inr (.inr rfl)) h1,DVs.fl ht Y.fl h2⟩,Y.fl,Y.d1,Y.d2,Y.d3⟩
theorem Yn.lst_tups (Y:Yn w CY CH CT CR CS H a q S) {c:Addr} (hc:a.lists c) (o:HO):∀ b vs,H b=some (.tup vs)->upd H c o b=some (.tup vs):=λb vs e=>by
 obtain ⟨ys,e'⟩:=Y.list hc
 rw [upd_ne (λy=>by rw [y,e'] at e;cases e)];exact e
theorem Yn.lst_own (Y:Yn w CY CH CT CR CS H a q S) {c:Addr} (hc:a.lists c) (o:HO):∀ b u,own5 a.z a.zt a.sa b->H b=some u->upd H c o b=some u:=λb u hb e=>by
 rw [upd_ne (λy=>Y.d1 c hc (by rw [← y];exact hb))];exact e
theorem Yn.lst_y (Y:Yn w CY CH CT CR CS H a q S) {c:Addr} (hc:a.lists c) (o:HO):∃ dx,upd H c o a.y=some (.ins CY dx (yF a q)):=by
 obtain ⟨dx,hx⟩:=Y.ob
 obtain ⟨ys,e'⟩:=Y.list hc
 exact ⟨dx,by rw [upd_ne (λy=>by rw [y,e'] at hx;cases hx)];exact hx⟩
theorem Yn.setSl (Y:Yn w CY CH CT CR CS H a q S) (b:Bool) (x:Bd) {ys:List V} (h:ys=[.str (setR S.bd b x false).key,.str (setR S.bd b x true).key]):Yn w CY CH CT CR CS (upd H a.sl (.lst ys)) a q { S with bd:=setR S.bd b x }:=by
 have hc:a.lists a.sl:=.inl rfl
 obtain ⟨ts,h1,h2⟩:=Y.hp
 have ht:=Y.lst_tups hc (.lst ys)
 exact ⟨Y.lst_y hc _,Y.x.keep (Y.lst_own hc _) ht,by rw [upd_same,h],by rw [upd_ne (Ne.symm Y.d2.1)];exact Y.qu,⟨ts,by rw [upd_ne (Ne.symm Y.d2.2.1)];exact h1,DVs.fl ht Y.fl h2⟩,Y.fl,Y.d1,Y.d2,Y.d3⟩
theorem Yn.setQu (Y:Yn w CY CH CT CR CS H a q S) (b x:Bool) {ys:List V} (h:ys=[.bl (setR S.qt b x false),.bl (setR S.qt b x true)]):Yn w CY CH CT CR CS (upd H a.qu (.lst ys)) a q { S with qt:=setR S.qt b x }:=by
 have hc:a.lists a.qu:=.inr (.inl rfl)
 obtain ⟨ts,h1,h2⟩:=Y.hp
 have ht:=Y.lst_tups hc (.lst ys)
 exact ⟨Y.lst_y hc _,Y.x.keep (Y.lst_own hc _) ht,by rw [upd_ne Y.d2.1];exact Y.sl,by rw [upd_same,h],⟨ts,by rw [upd_ne (Ne.symm Y.d2.2.2)];exact h1,DVs.fl ht Y.fl h2⟩,Y.fl,Y.d1,Y.d2,Y.d3⟩
theorem Yn.setHp (Y:Yn w CY CH CT CR CS H a q S) {x:PyData} {v:V} {ts:List V} (hts:H a.hp=some (.lst ts)) (hv:DV H x v) (hx:flD x=true):Yn w CY CH CT CR CS (upd H a.hp (.lst (ts++[v]))) a q { S with hs:=S.hs++[x] }:=by
 have hc:a.lists a.hp:=.inr (.inr rfl)
 obtain ⟨ts',h1,h2⟩:=Y.hp
 rw [hts] at h1
 cases h1
 have ht:=Y.lst_tups hc (.lst (ts++[v]))
 have hf:∀ d∈S.hs++[x],flD d=true:=λd hd=>by
   rcases List.mem_append.mp hd with h | h
   · exact Y.fl d h
   · rw [List.mem_singleton.mp h];exact hx
 exact ⟨Y.lst_y hc _,Y.x.keep (Y.lst_own hc _) ht,by rw [upd_ne Y.d2.2.1];exact Y.sl,by rw [upd_ne Y.d2.2.2];exact Y.qu,⟨_,upd_same,DVs.fl ht hf (DVs.snoc h2 hv)⟩,hf,Y.d1,Y.d2,Y.d3⟩
end
inductive Dd where
 | ask (wt:Int) | collect | take | answer (nm wt:Int) | bell (b:Bool) | lie (b:Bool) | look (b:Bool) | drain (b:Bool)
def Dd.vs:Dd->List V
 | .ask wt=>[.str "ask",.int wt]
 | .collect=>[.str "collect"]
 | .take=>[.str "take"]
 | .answer nm wt=>[.str "answer",.int nm,.int wt]
 | .bell b=>[.str "bell",.int (sdI b)]
 | .lie b=>[.str "lie",.int (sdI b)]
 | .look b=>[.str "look",.int (sdI b)]
 | .drain b=>[.str "drain",.int (sdI b)]
def Dd.dat:Dd->PyData
 | .ask wt=>.tuple [.str "ask",.int wt]
 | .collect=>.tuple [.str "collect"]
 | .take=>.tuple [.str "take"]
 | .answer nm wt=>.tuple [.str "answer",.int nm,.int wt]
 | .bell b=>.tuple [.str "bell",.int (sdI b)]
 | .lie b=>.tuple [.str "lie",.int (sdI b)]
 | .look b=>.tuple [.str "look",.int (sdI b)]
 | .drain b=>.tuple [.str "drain",.int (sdI b)]
def Dd.Ok:Dd->Prop
 | .ask wt=>-1000000000 <= wt/\wt <= 1000000000
 | .answer _ wt=>-1000000000 <= wt/\wt <= 1000000000
 | _=>True
inductive Rf where
 | deed | full | name | task
def Dd.chk (q:YP) (S:YS):Dd->Option Rf
 | .drain b=>if S.rs b=[] then some .deed else none
 | .look b=>if S.bd b=.lies then none else some .deed
 | .bell b=>if S.bd b=.up then none else some .deed
 | .lie b=>if S.bd b=.up then none else some .deed
 | .collect=>if S.bd false=.up then none else some .deed
 | .take=>if S.bd true=.up then none else some .deed
 | .ask _=>if S.bd false=.up then (if aheadT q.p S.m (S.rs false) .asked .taken=q.p.s then some .full else match least q.n S.un with | none=>some .name | some _=>none) else some .deed
 | .answer nm _=>if S.bd true=.up then (if S.tk.contains nm=false then some .task else if aheadT q.p S.m (S.rs true) .answered .handed=q.p.s then some .full else none) else some .deed
theorem Dd.dv {H:Hp} {t:Addr} (d:Dd) (h:H t=some (.tup d.vs)):DV H d.dat (.ref t):=by
 cases d<;>first
   | exact ⟨t,_,rfl,h,_,_,rfl,rfl,rfl⟩
   | exact ⟨t,_,rfl,h,_,_,rfl,rfl,_,_,rfl,rfl,rfl⟩
   | exact ⟨t,_,rfl,h,_,_,rfl,rfl,_,_,rfl,rfl,_,_,rfl,rfl,rfl⟩
end L2
namespace L2
open PySem PySem.Spec PyProof.Rows
section
variable {K:PySem.W.Frag}
theorem kx_ii:PySem.W.kitOne K (.type "int") (.type "int")=some true:=by rfl
theorem kx_ib:PySem.W.kitOne K (.type "int") (.type "bool")=some false:=by rfl
theorem kx_ss:PySem.W.kitOne K (.type "str") (.type "str")=some true:=by rfl
end
end L2
namespace L2
open PySem PySem.Spec PyProof.Rows
def partOk (x:Int) (k:Str):Bool:=if k="worth" then decide (-1000000000 <= x) && decide (x <= 1000000000) else if k="side" then decide (x=0) || decide (x=1) else true
def Dd.word:Dd->Str
 | .ask _=>"ask"
 | .collect=>"collect"
 | .take=>"take"
 | .answer _ _=>"answer"
 | .bell _=>"bell"
 | .lie _=>"lie"
 | .look _=>"look"
 | .drain _=>"drain"
def Dd.args:Dd->List Int
 | .ask wt=>[wt]
 | .collect=>[]
 | .take=>[]
 | .answer nm wt=>[nm,wt]
 | .bell b=>[sdI b]
 | .lie b=>[sdI b]
 | .look b=>[sdI b]
 | .drain b=>[sdI b]
def Dd.ks:Dd->List Str
 | .ask _=>["worth"]
 | .collect=>[]
 | .take=>[]
 | .answer _ _=>["name","worth"]
 | _=>["side"]
def Dd.side:Dd->Bool
 | .ask _=>false
 | .collect=>false
 | .take=>true
 | .answer _ _=>true
 | .bell b=>b
 | .lie b=>b
 | .look b=>b
 | .drain b=>b
theorem Dd.vs_eq (x:Dd):x.vs=.str x.word :: x.args.map V.int:=by cases x<;>rfl
theorem Dd.len (x:Dd):x.args.length=x.ks.length/\x.args.length <= 2:=by cases x<;>exact ⟨rfl,by simp [Dd.args]⟩
theorem sdI_part (b:Bool):partOk (sdI b) "side"=true:=by cases b<;>decide +kernel
theorem Dd.part {x:Dd} (h:x.Ok):∀ (i:Nat) (y:Int) (k:Str),x.args[i]?=some y->x.ks[i]?=some k->partOk y k=true:=by
 intro i y k hy hk
 have wk:∀ {wt:Int},(-1000000000 <= wt/\wt <= 1000000000)->partOk wt "worth"=true:=λ{wt} h=>by
   unfold partOk
   rw [if_pos rfl,decide_eq_true h.1,decide_eq_true h.2];rfl
 have nmk:∀ {nm:Int},partOk nm "name"=true:=λ{nm}=>by
   unfold partOk
   rw [if_neg (by decide +kernel),if_neg (by decide +kernel)]
 cases x with
 | ask wt =>
   match i,hy,hk with
   | 0,hy,hk=>cases hy;cases hk;exact wk h
   | _+1,hy,_=>cases hy
 | collect=>cases hy
 | take=>cases hy
 | answer nm wt =>
   match i,hy,hk with
   | 0,hy,hk=>cases hy;cases hk;exact nmk
   | 1,hy,hk=>cases hy;cases hk;exact wk h
   | _+2,hy,_=>cases hy
 | bell b =>
   match i,hy,hk with
   | 0,hy,hk=>cases hy;cases hk;exact sdI_part b
   | _+1,hy,_=>cases hy
 | lie b =>
   match i,hy,hk with
   | 0,hy,hk=>cases hy;cases hk;exact sdI_part b
   | _+1,hy,_=>cases hy
 | look b =>
   match i,hy,hk with
   | 0,hy,hk=>cases hy;cases hk;exact sdI_part b
   | _+1,hy,_=>cases hy
 | drain b =>
   match i,hy,hk with
   | 0,hy,hk=>cases hy;cases hk;exact sdI_part b
   | _+1,hy,_=>cases hy
end L2
namespace L2
open PySem PySem.Spec PyProof.Rows
theorem cutV_toY (xs:List V) (k:Nat):cutV xs none (some (k:Int))=xs.take k:=by
 unfold cutV
 rw [HT.sIx_nat,show HT.sIx xs.length 0 none=0 from rfl,List.drop_zero,Nat.sub_zero]
 by_cases h:k <= xs.length
 · rw [Nat.min_eq_left h]
 · rw [Nat.min_eq_right (by omega),List.take_of_length_le (Nat.le_refl _),List.take_of_length_le (by omega)]
theorem cutV_fromY (xs:List V) (k:Nat):cutV xs (some (k:Int)) none=xs.drop k:=by
 unfold cutV
 rw [HT.sIx_nat,show HT.sIx xs.length xs.length none=xs.length from rfl]
 by_cases h:k <= xs.length
 · rw [Nat.min_eq_left h,List.take_of_length_le (by rw [List.length_drop];exact Nat.le_refl _)]
 · rw [Nat.min_eq_right (by omega),List.drop_of_length_le (Nat.le_refl _),List.drop_of_length_le (by omega),List.take_nil]
end L2
namespace L2
theorem Dd.grp (x:Dd):((x.word="ask"\/x.word="collect")/\x.side=false)\/((x.word="take"\/x.word="answer")/\x.side=true)\/((x.word="bell"\/x.word="lie"\/x.word="look"\/x.word="drain")/\x.args=[sdI x.side]):=by
 cases x
 · exact .inl ⟨.inl rfl,rfl⟩
 · exact .inl ⟨.inr rfl,rfl⟩
 · exact .inr (.inl ⟨.inl rfl,rfl⟩)
 · exact .inr (.inl ⟨.inr rfl,rfl⟩)
 · exact .inr (.inr ⟨.inl rfl,rfl⟩)
 · exact .inr (.inr ⟨.inr (.inl rfl),rfl⟩)
 · exact .inr (.inr ⟨.inr (.inr (.inl rfl)),rfl⟩)
 · exact .inr (.inr ⟨.inr (.inr (.inr rfl)),rfl⟩)
end L2
namespace L2
open PySem
def Dd.need:Dd->Bd
 | .look _=>.lies
 | _=>.up
theorem Dd.chk_bed {q:YP} {S:YS} {x:Dd} (hd:∀ b,x≠.drain b) (h:S.bd x.side≠x.need):x.chk q S=some .deed:=by
 cases x
 · exact if_neg h
 · exact if_neg h
 · exact if_neg h
 · exact if_neg h
 · exact if_neg h
 · exact if_neg h
 · exact if_neg h
 · exact absurd rfl (hd _)
theorem Dd.word_drain (x:Dd):x.word="drain" ↔ ∃ b,x=.drain b:=by
 constructor
 · intro h
   cases x with
   | drain b=>exact ⟨b,rfl⟩
   | ask wt=>exact absurd (show ("ask":Str)="drain" from h) (by decide +kernel)
   | collect=>exact absurd (show ("collect":Str)="drain" from h) (by decide +kernel)
   | take=>exact absurd (show ("take":Str)="drain" from h) (by decide +kernel)
   | answer nm wt=>exact absurd (show ("answer":Str)="drain" from h) (by decide +kernel)
   | bell b=>exact absurd (show ("bell":Str)="drain" from h) (by decide +kernel)
   | lie b=>exact absurd (show ("lie":Str)="drain" from h) (by decide +kernel)
   | look b=>exact absurd (show ("look":Str)="drain" from h) (by decide +kernel)
 · rintro ⟨b,rfl⟩;rfl
theorem Dd.word_look (x:Dd):(x.word="look"/\x.need=.lies/\∃ b,x=.look b)\/(x.word≠"look"/\x.need=.up):=by
 cases x with
 | look b=>exact .inl ⟨rfl,rfl,b,rfl⟩
 | ask wt=>exact .inr ⟨show ¬ ("ask":Str)="look" by decide +kernel,rfl⟩
 | collect=>exact .inr ⟨show ¬ ("collect":Str)="look" by decide +kernel,rfl⟩
 | take=>exact .inr ⟨show ¬ ("take":Str)="look" by decide +kernel,rfl⟩
 | answer nm wt=>exact .inr ⟨show ¬ ("answer":Str)="look" by decide +kernel,rfl⟩
 | bell b=>exact .inr ⟨show ¬ ("bell":Str)="look" by decide +kernel,rfl⟩
 | lie b=>exact .inr ⟨show ¬ ("lie":Str)="look" by decide +kernel,rfl⟩
 | drain b=>exact .inr ⟨show ¬ ("drain":Str)="look" by decide +kernel,rfl⟩
theorem Dd.word_aa (x:Dd):(∃ wt,x=.ask wt)\/(∃ nm wt,x=.answer nm wt)\/(x.word≠"ask"/\x.word≠"answer"/\∀ (q:YP) (S:YS),(∀ b,x≠.drain b)->S.bd x.side=x.need->x.chk q S=none):=by
 cases x with
 | ask wt=>exact .inl ⟨_,rfl⟩
 | answer nm wt=>exact .inr (.inl ⟨_,_,rfl⟩)
 | collect=>exact .inr (.inr ⟨show ¬ ("collect":Str)="ask" by decide +kernel,show ¬ ("collect":Str)="answer" by decide +kernel,λq S _ h=>if_pos h⟩)
 | take=>exact .inr (.inr ⟨show ¬ ("take":Str)="ask" by decide +kernel,show ¬ ("take":Str)="answer" by decide +kernel,λq S _ h=>if_pos h⟩)
 | bell b=>exact .inr (.inr ⟨show ¬ ("bell":Str)="ask" by decide +kernel,show ¬ ("bell":Str)="answer" by decide +kernel,λq S _ h=>if_pos h⟩)
 | lie b=>exact .inr (.inr ⟨show ¬ ("lie":Str)="ask" by decide +kernel,show ¬ ("lie":Str)="answer" by decide +kernel,λq S _ h=>if_pos h⟩)
 | look b=>exact .inr (.inr ⟨show ¬ ("look":Str)="ask" by decide +kernel,show ¬ ("look":Str)="answer" by decide +kernel,λq S _ h=>if_pos h⟩)
 | drain b=>exact .inr (.inr ⟨show ¬ ("drain":Str)="ask" by decide +kernel,show ¬ ("drain":Str)="answer" by decide +kernel,λq S h _=>absurd rfl (h b)⟩)
theorem bd_ne {a b:Bd} (h:a≠b):V.str a.key≠V.str b.key:=λy=>h (bd_inj (by injection y))
end L2
namespace L2
open PySem PySem.Spec PyProof.Rows
end L2

namespace L2
open PySem PySem.Spec PyProof.Rows
def txtD:PyData->Str
 | .str t=>t
 | .tuple [.str t,.int i]=>Txt.join " " [t,toString i]
 | _=>""
inductive Ck where
 | c (k:Cn)
 | p (g:Bool) (i:Int)
def Ck.key:Ck->PyData
 | .c k=>.str k.key
 | .p g i=>pk g i
def ckAll:List Ck:=[.p true 0,.p true 1,.p true 2,.p true 3,.p true 4,.p true 5,.p true 6,.p true 7,.c .answered,.p false 0,.p false 1,.p false 2,.p false 3,.p false 4,.p false 5,.p false 6,.p false 7,.c .asked,.c .hs,.c .handed,.c .ts,.c .taken]
instance (a b:Str):Decidable (ltS a b):=inferInstanceAs (Decidable (a.cps.toList < b.cps.toList))
def Mem.wd (m:Mem):Ck->Option PyData
 | .c k=>if m.c k=0 then none else some (.int (m.c k))
 | .p g i=>(m.p g i).map λnw=>.tuple [.int nw.1,.int nw.2]
def cellsD (m:Mem):List (PyData × PyData):=ckAll.filterMap λc=>(m.wd c).map λd=>(c.key,d)
def nzY (p:PyData × V):Bool:=decide (p.2≠.int 0)
end L2

namespace L2
open PySem PySem.Spec PyProof.Rows
def slpC:Bool->Cn
 | false=>.hs
 | true=>.ts
def Mem.putAllY (m:Mem) (row:List Wr):Mem:=row.foldl Mem.put m
def YS.fence (S:YS) (b:Bool):YS:={ S with m:=S.m.putAllY (S.rs b),rs:=setR S.rs b [] }
def YS.wr (S:YS) (b:Bool) (x:Wr):YS:={ S with rs:=setR S.rs b (S.rs b++[x]) }
def tup3 (wd:Str) (x y:PyData):PyData:=.tuple [.str wd,x,y]
def swT (q:YP) (S:YS):Bool->Bool
 | false=>decide (aheadT q.p S.m (S.rs false) .answered .handed≠0)
 | true=>decide (aheadT q.p S.m (S.rs true) .asked .taken≠0)
def Dd.run (q:YP) (S:YS):Dd->PyData × YS
 | .ask wt=>match least q.n S.un with
   | some nm=>(.int nm,{ S with rs:=setR S.rs false (S.rs false++layT q.p S.m (S.rs false) false .asked nm wt),un:=S.un++[nm],qt:=setR S.qt false false,hs:=S.hs++[tup3 "asked" (.int nm) (.int wt)] })
   | none=>(.none,S)
 | .collect=>if aheadT q.p S.m (S.rs false) .answered .handed=0 then (.none,S) else match rdP S.m (S.rs false) true (rdC S.m (S.rs false) .handed % q.p.s) with
   | some nw=>(.tuple [.int nw.1,.int nw.2],{ S with rs:=setR S.rs false (S.rs false++[nextT q.p S.m (S.rs false) .handed]),un:=S.un.filter (λk=>decide (k≠nw.1)),hs:=S.hs++[tup3 "handed" (.int nw.1) (.int nw.2)] })
   | none=>(.tuple [.none,.none],{ S with rs:=setR S.rs false (S.rs false++[nextT q.p S.m (S.rs false) .handed]),hs:=S.hs++[tup3 "handed" .none .none] })
 | .take=>if aheadT q.p S.m (S.rs true) .asked .taken=0 then (.none,S) else match rdP S.m (S.rs true) false (rdC S.m (S.rs true) .taken % q.p.s) with
   | some nw=>(.tuple [.int nw.1,.int nw.2],{ S with rs:=setR S.rs true (S.rs true++[nextT q.p S.m (S.rs true) .taken]),tk:=gNext S.tk nw.1,hs:=S.hs++[tup3 "taken" (.int nw.1) (.int nw.2)] })
   | none=>(.tuple [.none,.none],{ S with rs:=setR S.rs true (S.rs true++[nextT q.p S.m (S.rs true) .taken]),hs:=S.hs++[tup3 "taken" .none .none] })
 | .answer nm wt=>(.none,{ S with rs:=setR S.rs true (S.rs true++layT q.p S.m (S.rs true) true .answered nm wt),tk:=S.tk.filter (λk=>decide (k≠nm)),qt:=setR S.qt true false,hs:=S.hs++[tup3 "answered" (.int nm) (.int wt)] })
 | .bell b =>
   let S1:=if q.fb then S.fence b else S
   let S2:={ S1 with qt:=setR S1.qt b true }
   if rdC S2.m (S2.rs b) (slpC (!b))≠1 then (.bool false,S2) else if S2.bd (!b)=.asleep then (.bool true,({ S2 with bd:=setR S2.bd (!b) .up }:YS).wr (!b) (.c (slpC (!b)) 0)) else (.bool true,S2)
 | .lie b =>
   let S1:=S.wr b (.c (slpC b) 1)
   let S2:=if q.fl then S1.fence b else S1
   (.none,{ S2 with bd:=setR S2.bd b .lies })
 | .look b=>if q.fk=true/\swT q S b=true then (.bool true,{ (S.wr b (.c (slpC b) 0)) with bd:=setR S.bd b .up }) else (.bool false,{ S with bd:=setR S.bd b .asleep })
 | .drain b=>match S.rs b with
   | x :: rest=>(.none,{ S with m:=S.m.put x,rs:=setR S.rs b rest })
   | []=>(.none,S)
structure YI (q:YP) (S:YS) (L:Nat):Prop where
 und:Nms q.n S.un
 tkd:Nms 9 S.tk
 len:∀ b,(S.rs b).length <= L
 hl:S.hs.length <= L
theorem YI.zero (q:YP):YI q YS.zero 0:=⟨Nms.nil _,Nms.nil _,λ_=>Nat.le_refl _,Nat.le_refl _⟩
theorem YI.mono {q:YP} {S:YS} {L L':Nat} (h:YI q S L) (hl:L <= L'):YI q S L':=⟨h.und,h.tkd,λb=>Nat.le_trans (h.len b) hl,Nat.le_trans h.hl hl⟩
end L2

namespace L2
open PySem PySem.Spec PyProof.Rows
def Rf.key:Rf->Str
 | .deed=>"deed"
 | .full=>"full"
 | .name=>"name"
 | .task=>"task"
theorem Rf.key_ne (r:Rf):r.key≠"none":=by cases r<;>decide +kernel
def Dd.out (q:YP) (S:YS) (x:Dd):Str × PyData × YS:=match x.chk q S with
 | none=>("none",(x.run q S).1,(x.run q S).2)
 | some r=>(r.key,.none,S)
theorem Dd.out_none {q:YP} {S:YS} {x:Dd} (h:x.chk q S=none):x.out q S=(("none":Str),(x.run q S).1,(x.run q S).2):=by unfold Dd.out;rw [h]
theorem Dd.out_some {q:YP} {S:YS} {x:Dd} {r:Rf} (h:x.chk q S=some r):x.out q S=(r.key,.none,S):=by unfold Dd.out;rw [h]
def Fch (d:PyData):Prop:=d=.none\/d=.tuple [.none,.none]\/∃ a b:Int,d=.tuple [.int a,.int b]
theorem run_take (q:YP) (S:YS):Fch (Dd.take.run q S).1:=by
 unfold Dd.run
 by_cases h:aheadT q.p S.m (S.rs true) .asked .taken=0
 · rw [if_pos h];exact .inl rfl
 · rw [if_neg h]
   cases rdP S.m (S.rs true) false (rdC S.m (S.rs true) .taken % q.p.s) with
   | none=>exact .inr (.inl rfl)
   | some nw=>exact .inr (.inr ⟨_,_,rfl⟩)
theorem run_collect (q:YP) (S:YS):Fch (Dd.collect.run q S).1:=by
 unfold Dd.run
 by_cases h:aheadT q.p S.m (S.rs false) .answered .handed=0
 · rw [if_pos h];exact .inl rfl
 · rw [if_neg h]
   cases rdP S.m (S.rs false) true (rdC S.m (S.rs false) .handed % q.p.s) with
   | none=>exact .inr (.inl rfl)
   | some nw=>exact .inr (.inr ⟨_,_,rfl⟩)
def Dd.ftc:Dd->Prop
 | .take=>True
 | .collect=>True
 | _=>False
theorem out_ftc {q:YP} {S:YS} {x:Dd} (h:x.ftc):Fch (x.out q S).2.1:=by
 cases hc:x.chk q S with
 | some r=>rw [Dd.out_some hc];exact .inl rfl
 | none =>
   rw [Dd.out_none hc]
   cases x with
   | take=>exact run_take q S
   | collect=>exact run_collect q S
   | ask wt=>exact h.elim
   | answer nm wt=>exact h.elim
   | bell b=>exact h.elim
   | lie b=>exact h.elim
   | look b=>exact h.elim
   | drain b=>exact h.elim
theorem Fch.fl {d:PyData} (h:Fch d):flD d=true:=by
 rcases h with rfl | rfl | ⟨a,b,rfl⟩<;>rfl
theorem out_fl {q:YP} {S:YS} (x:Dd):flD (x.out q S).2.1=true:=by
 cases hc:x.chk q S with
 | some r=>rw [Dd.out_some hc];rfl
 | none =>
   rw [Dd.out_none hc]
   cases x with
   | take=>exact (run_take q S).fl
   | collect=>exact (run_collect q S).fl
   | ask wt =>
     show flD (match least q.n S.un with | some nm=>_ | none=>_:PyData × YS).1=true
     cases least q.n S.un<;>rfl
   | answer nm wt=>rfl
   | bell b =>
     have aux:∀ S2:YS,flD (if rdC S2.m (S2.rs b) (slpC (!b))≠1 then (PyData.bool false,S2) else if S2.bd (!b)=.asleep then (.bool true,({ S2 with bd:=setR S2.bd (!b) .up }:YS).wr (!b) (.c (slpC (!b)) 0)) else (.bool true,S2)).1=true:=λS2=>by
       split
       · rfl
       · split<;>rfl
     exact aux { (if q.fb then S.fence b else S) with qt:=setR (if q.fb then S.fence b else S).qt b true }
   | lie b=>rfl
   | look b =>
     show flD (if _ then _ else _:PyData × YS).1=true
     split<;>rfl
   | drain b =>
     show flD (match S.rs b with | x :: rest=>_ | []=>_:PyData × YS).1=true
     cases S.rs b<;>rfl
def Dd.aft (ts:List Int) (x:Dd) (key:Str) (d:PyData):List Int:=if key="none" then (match x,d with
 | .take,.tuple [.int a,.int _]=>gNext ts a
 | .answer nm _,_=>ts.erase nm
 | _,_=>ts) else ts
def fst2:PyData->PyData
 | .tuple (a :: _)=>a
 | d=>d
def snd2:PyData->PyData
 | .tuple (_ :: b :: _)=>b
 | d=>d
def Dd.hap (x:Dd) (key:Str) (d:PyData):List PyData:=if key="none" then (match x with
 | .ask wt=>[tup3 "asked" d (.int wt)]
 | .answer nm wt=>[tup3 "answered" (.int nm) (.int wt)]
 | .take=>(match d with | .none=>[] | _=>[tup3 "taken" (fst2 d) (snd2 d)])
 | .collect=>(match d with | .none=>[] | _=>[tup3 "handed" (fst2 d) (snd2 d)])
 | _=>[]) else []
theorem out_hs {q:YP} {S:YS} (x:Dd):(x.out q S).2.2.hs=S.hs++x.hap (x.out q S).1 (x.out q S).2.1:=by
 cases hc:x.chk q S with
 | some r =>
   rw [Dd.out_some hc]
   show S.hs=S.hs++(if r.key="none" then _ else [])
   rw [if_neg r.key_ne,List.append_nil]
 | none =>
   rw [Dd.out_none hc]
   show (x.run q S).2.hs=S.hs++(if ("none":Str)="none" then _ else [])
   rw [if_pos rfl]
   cases x with
   | ask wt =>
     show (match least q.n S.un with | some nm=>_ | none=>_:PyData × YS).2.hs=S.hs++[tup3 "asked" (match least q.n S.un with | some nm=>_ | none=>_:PyData × YS).1 (.int wt)]
     cases hl:least q.n S.un with
     | some nm=>rfl
     | none =>
       have h':(if S.bd false=.up then (if aheadT q.p S.m (S.rs false) .asked .taken=q.p.s then some Rf.full else match least q.n S.un with | none=>some Rf.name | some _=>none) else some Rf.deed)=none:=hc
       rw [hl] at h'
       split at h'
       · split at h'<;>cases h'
       · cases h'
   | answer nm wt=>rfl
   | take =>
     unfold Dd.run
     by_cases h:aheadT q.p S.m (S.rs true) .asked .taken=0
     · rw [if_pos h];exact (List.append_nil _).symm
     · rw [if_neg h]
       cases rdP S.m (S.rs true) false (rdC S.m (S.rs true) .taken % q.p.s) with
       | none=>rfl
       | some nw=>rfl
   | collect =>
     unfold Dd.run
     by_cases h:aheadT q.p S.m (S.rs false) .answered .handed=0
     · rw [if_pos h];exact (List.append_nil _).symm
     · rw [if_neg h]
       cases rdP S.m (S.rs false) true (rdC S.m (S.rs false) .handed % q.p.s) with
       | none=>rfl
       | some nw=>rfl
   | bell b =>
     have f1:(if q.fb then S.fence b else S).hs=S.hs:=by cases q.fb<;>rfl
     have aux:∀ S2:YS,(if rdC S2.m (S2.rs b) (slpC (!b))≠1 then (PyData.bool false,S2) else if S2.bd (!b)=.asleep then (.bool true,({ S2 with bd:=setR S2.bd (!b) .up }:YS).wr (!b) (.c (slpC (!b)) 0)) else (.bool true,S2)).2.hs=S2.hs:=λS2=>by
       split
       · rfl
       · split<;>rfl
     show _=S.hs++[]
     rw [List.append_nil]
     exact (aux { (if q.fb then S.fence b else S) with qt:=setR (if q.fb then S.fence b else S).qt b true }).trans f1
   | lie b =>
     have f1:(if q.fl then (S.wr b (.c (slpC b) 1)).fence b else S.wr b (.c (slpC b) 1)).hs=S.hs:=by cases q.fl<;>rfl
     show _=S.hs++[]
     rw [List.append_nil]
     exact f1
   | look b =>
     show (if _ then _ else _:PyData × YS).2.hs=S.hs++[]
     rw [List.append_nil]
     split<;>rfl
   | drain b =>
     show (match S.rs b with | x :: rest=>_ | []=>_:PyData × YS).2.hs=S.hs++[]
     rw [List.append_nil]
     cases S.rs b<;>rfl
theorem Dd.cls2 (x:Dd):x=.take\/(∃ nm wt,x=.answer nm wt)\/(x.word≠"take"/\x.word≠"answer"/\∀ ts key d,x.aft ts key d=ts):=by
 cases x with
 | take=>exact .inl rfl
 | answer nm wt=>exact .inr (.inl ⟨_,_,rfl⟩)
 | ask wt=>exact .inr (.inr ⟨show ¬ ("ask":Str)="take" by decide +kernel,show ¬ ("ask":Str)="answer" by decide +kernel,λts key d=>by unfold Dd.aft;split<;>rfl⟩)
 | collect=>exact .inr (.inr ⟨show ¬ ("collect":Str)="take" by decide +kernel,show ¬ ("collect":Str)="answer" by decide +kernel,λts key d=>by unfold Dd.aft;split<;>rfl⟩)
 | bell b=>exact .inr (.inr ⟨show ¬ ("bell":Str)="take" by decide +kernel,show ¬ ("bell":Str)="answer" by decide +kernel,λts key d=>by unfold Dd.aft;split<;>rfl⟩)
 | lie b=>exact .inr (.inr ⟨show ¬ ("lie":Str)="take" by decide +kernel,show ¬ ("lie":Str)="answer" by decide +kernel,λts key d=>by unfold Dd.aft;split<;>rfl⟩)
 | look b=>exact .inr (.inr ⟨show ¬ ("look":Str)="take" by decide +kernel,show ¬ ("look":Str)="answer" by decide +kernel,λts key d=>by unfold Dd.aft;split<;>rfl⟩)
 | drain b=>exact .inr (.inr ⟨show ¬ ("drain":Str)="take" by decide +kernel,show ¬ ("drain":Str)="answer" by decide +kernel,λts key d=>by unfold Dd.aft;split<;>rfl⟩)
theorem Dd.cls5 (x:Dd):(∃ wt,x=.ask wt)\/(∃ nm wt,x=.answer nm wt)\/x=.take\/x=.collect\/(x.word≠"ask"/\x.word≠"answer"/\x.word≠"take"/\x.word≠"collect"/\∀ key d,x.hap key d=[]):=by
 cases x with
 | ask wt=>exact .inl ⟨_,rfl⟩
 | answer nm wt=>exact .inr (.inl ⟨_,_,rfl⟩)
 | take=>exact .inr (.inr (.inl rfl))
 | collect=>exact .inr (.inr (.inr (.inl rfl)))
 | bell b=>exact .inr (.inr (.inr (.inr ⟨show ¬ ("bell":Str)="ask" by decide +kernel,show ¬ ("bell":Str)="answer" by decide +kernel,show ¬ ("bell":Str)="take" by decide +kernel,show ¬ ("bell":Str)="collect" by decide +kernel,λkey d=>by unfold Dd.hap;split<;>rfl⟩)))
 | lie b=>exact .inr (.inr (.inr (.inr ⟨show ¬ ("lie":Str)="ask" by decide +kernel,show ¬ ("lie":Str)="answer" by decide +kernel,show ¬ ("lie":Str)="take" by decide +kernel,show ¬ ("lie":Str)="collect" by decide +kernel,λkey d=>by unfold Dd.hap;split<;>rfl⟩)))
 | look b=>exact .inr (.inr (.inr (.inr ⟨show ¬ ("look":Str)="ask" by decide +kernel,show ¬ ("look":Str)="answer" by decide +kernel,show ¬ ("look":Str)="take" by decide +kernel,show ¬ ("look":Str)="collect" by decide +kernel,λkey d=>by unfold Dd.hap;split<;>rfl⟩)))
 | drain b=>exact .inr (.inr (.inr (.inr ⟨show ¬ ("drain":Str)="ask" by decide +kernel,show ¬ ("drain":Str)="answer" by decide +kernel,show ¬ ("drain":Str)="take" by decide +kernel,show ¬ ("drain":Str)="collect" by decide +kernel,λkey d=>by unfold Dd.hap;split<;>rfl⟩)))
theorem Dd.at0 (x:Dd):atI x.vs 0=some (.str x.word):=by cases x<;>rfl
theorem Fch.dv {H:Hp} {d:PyData} {v:V} (h:Fch d) (dv:DV H d v):(d=.none/\v=.non)\/∃ (c:Addr) (v1 v2:V),v=.ref c/\H c=some (.tup [v1,v2])/\((d=.tuple [.none,.none]/\v1=.non/\v2=.non)\/∃ i j:Int,d=.tuple [.int i,.int j]/\v1=.int i/\v2=.int j):=by
 rcases h with rfl | rfl | ⟨i,j,rfl⟩
 · exact .inl ⟨rfl,dv⟩
 · obtain ⟨c,vs,rfl,hc,v1,r1,rfl,d1,v2,r2,rfl,d2,rfl⟩:=dv
   exact .inr ⟨c,v1,v2,rfl,hc,.inl ⟨rfl,d1,d2⟩⟩
 · obtain ⟨c,vs,rfl,hc,v1,r1,rfl,d1,v2,r2,rfl,d2,rfl⟩:=dv
   exact .inr ⟨c,v1,v2,rfl,hc,.inr ⟨i,j,rfl,d1,d2⟩⟩
theorem gNext_len {ts:List Int} {a:Int}:(gNext ts a).length <= ts.length+1:=by
 unfold gNext
 cases ts.contains a with
 | true=>exact Nat.le_succ _
 | false=>rw [if_neg (by decide),List.length_append];exact Nat.le_refl _
theorem aft_len {ts:List Int} {x:Dd} {key:Str} {d:PyData}:(x.aft ts key d).length <= ts.length+1:=by
 unfold Dd.aft
 split
 · split
   · exact gNext_len
   · exact Nat.le_succ_of_le (List.length_erase_le)
   · exact Nat.le_succ _
 · exact Nat.le_succ _
end L2

namespace L2
open PySem PySem.Spec PyProof.Rows
theorem ko_tups {own:Addr->Prop} {H H':Hp} (ko:KO own H H') (h:∀ c,own c->∀ vs,H c≠some (.tup vs)):∀ b vs,H b=some (.tup vs)->H' b=some (.tup vs):=λb vs e=>ko b _ (λz=>h b z vs e) e
section
variable {w:World} {CY CH CT CR CS:Addr} {H H':Hp} {a:YA} {q:YP} {S:YS}
theorem Yn.noT (Y:Yn w CY CH CT CR CS H a q S):∀ c,a.own c->∀ vs,H c≠some (.tup vs):=λc hc vs e=>by
 obtain ⟨o,e',n⟩:=Y.there hc
 rw [e'] at e;exact n vs (Option.some.inj e)
theorem Yn.ko (Y:Yn w CY CH CT CR CS H a q S) {own:Addr->Prop} (ko:KO own H H') (hd:∀ c,own c->¬ a.own c) (hn:∀ c,own c->∀ vs,H c≠some (.tup vs)):Yn w CY CH CT CR CS H' a q S :=
 Y.keep (λc o hc e=>ko c o (λz=>hd c z hc) e) (ko_tups ko hn)
theorem Yn.fresh (Y:Yn w CY CH CT CR CS H a q S) {c:Addr} (h:H c=none):¬ a.own c:=λhc=>by
 obtain ⟨o,e,_⟩:=Y.there hc
 rw [e] at h;cases h
end
theorem dvs_app {H:Hp}:∀ {xs ys:List PyData} {vs us:List V},DVs H xs vs->DVs H ys us->DVs H (xs++ys) (vs++us)
 | [],_,_,_,h1,h2=>by cases h1;exact h2
 | _ :: _,_,_,_,⟨v,r,e,h,h1⟩,h2=>by subst e;exact ⟨v,_,rfl,h,dvs_app h1 h2⟩
def LsF (own:Addr->Prop) (H:Hp) (l:Addr) (ds:List PyData):Prop:=∃ vs,H l=some (.lst vs)/\DVs H ds vs/\(∀ d∈ds,flD d=true)/\¬ own l
theorem LsF.ko {own:Addr->Prop} {H H':Hp} {l:Addr} {ds:List PyData} (h:LsF own H l ds) (ko:KO own H H') (ht:∀ b vs,H b=some (.tup vs)->H' b=some (.tup vs)):LsF own H' l ds:=by
 obtain ⟨vs,h1,h2,h3,h4⟩:=h
 exact ⟨vs,ko _ _ h4 h1,DVs.fl ht h3 h2,h3,h4⟩
theorem LsF.dv {own:Addr->Prop} {H:Hp} {l:Addr} {ds:List PyData} (h:LsF own H l ds):DV H (.list ds) (.ref l):=by
 obtain ⟨vs,h1,h2,_⟩:=h
 exact ⟨l,vs,rfl,h1,h2⟩
def FlL (ds:List PyData):Prop:=∀ d∈ds,PyData.canLay0 d=true/\d.depth <= 9
theorem FlL.all:∀ {ds:List PyData},FlL ds->PyData.canLayAll0 ds=true/\PyData.depthAll ds <= 9
 | [],_=>⟨rfl,Nat.zero_le _⟩
 | d :: ds,h=>by
   obtain ⟨a,b⟩:=FlL.all (ds:=ds) λu hu=>h u (List.mem_cons_of_mem _ hu)
   have hd:=h d List.mem_cons_self
   refine ⟨?_,?_⟩
   · show (PyData.canLay0 d && PyData.canLayAll0 ds)=true
     rw [hd.1,a];rfl
   · show max d.depth (PyData.depthAll ds) <= 9
     have:=hd.2
     omega
theorem FlL.lay {ds:List PyData} (h:FlL ds):LayD (.list ds)/\(PyData.list ds).depth <= 10:=by
 obtain ⟨h1,h2⟩:=h.all
 exact ⟨⟨h1,by show PyData.depthAll _+1 <= 16;omega⟩,by show PyData.depthAll _+1 <= 10;omega⟩
theorem FlL.app {xs ys:List PyData} (h1:FlL xs) (h2:FlL ys):FlL (xs++ys):=λd hd=>by
 rcases List.mem_append.mp hd with z | z
 · exact h1 d z
 · exact h2 d z
theorem FlL.nil:FlL []:=λ_ h=>absurd h List.not_mem_nil
theorem FlL.one {d:PyData} (h1:PyData.canLay0 d=true) (h2:d.depth <= 9):FlL [d]:=λe he=>by rw [List.mem_singleton.mp he];exact ⟨h1,h2⟩
theorem eqv_lay {d:PyData} (h:LayD d):PyData.eqv d d=true:=PySem.SeqAt.eqv_refl d h.1
theorem tup3_lay {wd:Str} {d1 d2:PyData} (hw:PyData.strOk wd=true) (h1:PyData.canLay0 d1=true/\d1.depth=0) (h2:PyData.canLay0 d2=true/\d2.depth=0):FlL [tup3 wd d1 d2]:=by
 refine .one ?_ ?_
 · show (PyData.strOk wd && (PyData.canLay0 d1 && (PyData.canLay0 d2 && true)))=true
   rw [hw,h1.1,h2.1];rfl
 · show max 0 (max d1.depth (max d2.depth 0))+1 <= 9
   rw [h1.2,h2.2];decide
theorem fch_take {d:PyData} (h:Fch d):FlL (Dd.take.hap "none" d):=by
 rcases h with rfl | rfl | ⟨a,b,rfl⟩
 · exact .nil
 · exact tup3_lay (wd:="taken") (by decide +kernel) ⟨rfl,rfl⟩ ⟨rfl,rfl⟩
 · exact tup3_lay (wd:="taken") (by decide +kernel) ⟨rfl,rfl⟩ ⟨rfl,rfl⟩
theorem fch_collect {d:PyData} (h:Fch d):FlL (Dd.collect.hap "none" d):=by
 rcases h with rfl | rfl | ⟨a,b,rfl⟩
 · exact .nil
 · exact tup3_lay (wd:="handed") (by decide +kernel) ⟨rfl,rfl⟩ ⟨rfl,rfl⟩
 · exact tup3_lay (wd:="handed") (by decide +kernel) ⟨rfl,rfl⟩ ⟨rfl,rfl⟩
theorem hap_lay {q:YP} {S:YS} (x:Dd):FlL (x.hap (x.out q S).1 (x.out q S).2.1):=by
 cases hc:x.chk q S with
 | some r =>
   rw [Dd.out_some hc]
   show FlL (if r.key="none" then _ else [])
   rw [if_neg r.key_ne]
   exact .nil
 | none =>
   rw [Dd.out_none hc]
   cases x with
   | ask wt =>
     show FlL [tup3 "asked" (match least q.n S.un with | some nm=>_ | none=>_:PyData × YS).1 (.int wt)]
     cases hl:least q.n S.un with
     | some nm=>exact tup3_lay (wd:="asked") (by decide +kernel) ⟨rfl,rfl⟩ ⟨rfl,rfl⟩
     | none=>exact tup3_lay (wd:="asked") (by decide +kernel) ⟨rfl,rfl⟩ ⟨rfl,rfl⟩
   | answer nm wt=>exact tup3_lay (wd:="answered") (by decide +kernel) ⟨rfl,rfl⟩ ⟨rfl,rfl⟩
   | take=>exact fch_take (run_take q S)
   | collect=>exact fch_collect (run_collect q S)
   | bell b=>exact .nil
   | lie b=>exact .nil
   | look b=>exact .nil
   | drain b=>exact .nil
theorem hap_len {x:Dd} {key:Str} {d:PyData}:(x.hap key d).length <= 1:=by
 unfold Dd.hap
 split
 · split
   · exact Nat.le_refl _
   · exact Nat.le_refl _
   · split
     · exact Nat.zero_le _
     · exact Nat.le_refl _
   · split
     · exact Nat.zero_le _
     · exact Nat.le_refl _
   · exact Nat.zero_le _
 · exact Nat.zero_le _
def KPr (own:Addr->Prop) (H:Hp) (v:V):Prop:=∃ (t f s:Addr) (ds:List PyData),v=.ref t/\H t=some (.tup [.ref f,.ref s])/\LsF own H f ds/\LsF own H s ds/\FlL ds
theorem KPr.ko {own:Addr->Prop} {H H':Hp} {v:V} (h:KPr own H v) (ko:KO own H H') (ht:∀ b vs,H b=some (.tup vs)->H' b=some (.tup vs)):KPr own H' v:=by
 obtain ⟨t,f,s,ds,e,h1,h2,h3,h4⟩:=h
 exact ⟨t,f,s,ds,e,ht _ _ h1,h2.ko ko ht,h3.ko ko ht,h4⟩
end L2

set_option maxHeartbeats 4000000
namespace My
open PySem L2
def top (i:Nat):Stmt:=PySem.Challenge.pw_askring_k27_what_happened.main.body.getD i (.Pass ⟨0,0,0,0⟩)
abbrev s_next_counter:Stmt:=top 8
abbrev s_place_of:Stmt:=top 9
abbrev s_ahead_by:Stmt:=top 10
abbrev s_rounds_with:Stmt:=top 14
abbrev s_Ring__init:Stmt:=inClass (top 15) 0
abbrev s_Ring_filled:Stmt:=inClass (top 15) 1
abbrev s_Ring_is_full:Stmt:=inClass (top 15) 2
abbrev s_Ring_place_at:Stmt:=inClass (top 15) 3
abbrev s_Ring_write_further:Stmt:=inClass (top 15) 4
abbrev s_Ring_lay:Stmt:=inClass (top 15) 5
abbrev s_Ring_fetch:Stmt:=inClass (top 15) 6
abbrev s_Hand__init:Stmt:=inClass (top 17) 0
abbrev s_Hand_least_free:Stmt:=inClass (top 17) 2
abbrev s_Hand_check_ask:Stmt:=inClass (top 17) 3
abbrev s_Hand_ask:Stmt:=inClass (top 17) 4
abbrev s_Hand_collect:Stmt:=inClass (top 17) 5
abbrev s_Hand_something_waits:Stmt:=inClass (top 17) 7
abbrev s_Heart__init:Stmt:=inClass (top 19) 0
abbrev s_Heart_take:Stmt:=inClass (top 19) 2
abbrev s_Heart_check_answer:Stmt:=inClass (top 19) 3
abbrev s_Heart_answer:Stmt:=inClass (top 19) 4
abbrev s_Heart_tasks:Stmt:=inClass (top 19) 5
abbrev s_Heart_something_waits:Stmt:=inClass (top 19) 6
abbrev s_Store__init:Stmt:=inClass (top 21) 0
abbrev s_Store_write:Stmt:=inClass (top 21) 2
abbrev s_Store_drain:Stmt:=inClass (top 21) 3
abbrev s_Store_fence:Stmt:=inClass (top 21) 4
abbrev s_Store_read:Stmt:=inClass (top 21) 5
abbrev s_Store_memory:Stmt:=inClass (top 21) 6
abbrev s_Store_waits:Stmt:=inClass (top 21) 7
abbrev s_is_whole:Stmt:=top 26
abbrev s_is_part:Stmt:=top 27
abbrev s_is_deed:Stmt:=top 28
abbrev s_side_of:Stmt:=top 29
abbrev s_Yard__init:Stmt:=inClass (top 30) 0
abbrev s_Yard_deed:Stmt:=inClass (top 30) 1
abbrev s_Yard_story:Stmt:=inClass (top 30) 3
abbrev s_Yard_store:Stmt:=inClass (top 30) 8
abbrev s_Yard_check:Stmt:=inClass (top 30) 11
abbrev s_Yard_do_ask:Stmt:=inClass (top 30) 14
abbrev s_Yard_do_answer:Stmt:=inClass (top 30) 15
abbrev s_Yard_tell_fetched:Stmt:=inClass (top 30) 16
abbrev s_Yard_do_bell:Stmt:=inClass (top 30) 17
abbrev s_Yard_do_lie:Stmt:=inClass (top 30) 18
abbrev s_Yard_do_look:Stmt:=inClass (top 30) 19
abbrev s_Yard_something_waits:Stmt:=inClass (top 30) 20
abbrev s_law_cell_at:Stmt:=top 32
abbrev s_law_codes:Stmt:=top 33
abbrev s_law_make:Stmt:=top 34
abbrev s_law_same:Stmt:=top 35
abbrev s_law_worth:Stmt:=top 36
abbrev s_law_deed:Stmt:=top 37
abbrev s_law_tried:Stmt:=top 38
abbrev s_law_after:Stmt:=top 39
abbrev s_law_happened:Stmt:=top 40
abbrev s_law:Stmt:=top 41
theorem sc_next_counter:FnScope ["counter","size","rounds"] ["counter","size","rounds"] (defScope s_next_counter):=⟨rfl,rfl,rfl,by decide +kernel,rfl,by decide +kernel,by decide +kernel⟩
theorem sc_place_of:FnScope ["counter","size"] ["counter","size"] (defScope s_place_of):=⟨rfl,rfl,rfl,by decide +kernel,rfl,by decide +kernel,by decide +kernel⟩
theorem sc_ahead_by:FnScope ["one","other","size","rounds"] ["one","other","size","rounds"] (defScope s_ahead_by):=⟨rfl,rfl,rfl,by decide +kernel,rfl,by decide +kernel,by decide +kernel⟩
theorem sc_rounds_with:FnScope ["rounds","faults"] ["rounds","faults"] (defScope s_rounds_with):=⟨rfl,rfl,rfl,by decide +kernel,rfl,by decide +kernel,by decide +kernel⟩
theorem sc_Ring__init:FnScope ["self","store","side","words","size","rounds","faults"] ["self","store","side","words","size","rounds","faults"] (defScope s_Ring__init):=⟨rfl,rfl,rfl,by decide +kernel,rfl,by decide +kernel,by decide +kernel⟩
theorem sc_Ring_filled:FnScope ["self","laid","fetched"] ["self"] (defScope s_Ring_filled):=⟨rfl,rfl,rfl,by decide +kernel,rfl,by decide +kernel,by decide +kernel⟩
theorem sc_Ring_is_full:FnScope ["self"] ["self"] (defScope s_Ring_is_full):=⟨rfl,rfl,rfl,by decide +kernel,rfl,by decide +kernel,by decide +kernel⟩
theorem sc_Ring_place_at:FnScope ["self","counter"] ["self","counter"] (defScope s_Ring_place_at):=⟨rfl,rfl,rfl,by decide +kernel,rfl,by decide +kernel,by decide +kernel⟩
theorem sc_Ring_write_further:FnScope ["self","cell","counter"] ["self","cell","counter"] (defScope s_Ring_write_further):=⟨rfl,rfl,rfl,by decide +kernel,rfl,by decide +kernel,by decide +kernel⟩
theorem sc_Ring_lay:FnScope ["self","name","worth","counter"] ["self","name","worth"] (defScope s_Ring_lay):=⟨rfl,rfl,rfl,by decide +kernel,rfl,by decide +kernel,by decide +kernel⟩
theorem sc_Ring_fetch:FnScope ["self","counter","found"] ["self"] (defScope s_Ring_fetch):=⟨rfl,rfl,rfl,by decide +kernel,rfl,by decide +kernel,by decide +kernel⟩
theorem sc_Hand__init:FnScope ["self","store","size","rounds","names","faults"] ["self","store","size","rounds","names","faults"] (defScope s_Hand__init):=⟨rfl,rfl,rfl,by decide +kernel,rfl,by decide +kernel,by decide +kernel⟩
theorem sc_Hand_least_free:FnScope ["self","name"] ["self"] (defScope s_Hand_least_free):=⟨rfl,rfl,rfl,by decide +kernel,rfl,by decide +kernel,by decide +kernel⟩
theorem sc_Hand_check_ask:FnScope ["self"] ["self"] (defScope s_Hand_check_ask):=⟨rfl,rfl,rfl,by decide +kernel,rfl,by decide +kernel,by decide +kernel⟩
theorem sc_Hand_ask:FnScope ["self","worth","name"] ["self","worth"] (defScope s_Hand_ask):=⟨rfl,rfl,rfl,by decide +kernel,rfl,by decide +kernel,by decide +kernel⟩
theorem sc_Hand_collect:FnScope ["self","told"] ["self"] (defScope s_Hand_collect):=⟨rfl,rfl,rfl,by decide +kernel,rfl,by decide +kernel,by decide +kernel⟩
theorem sc_Hand_something_waits:FnScope ["self"] ["self"] (defScope s_Hand_something_waits):=⟨rfl,rfl,rfl,by decide +kernel,rfl,by decide +kernel,by decide +kernel⟩
theorem sc_Heart__init:FnScope ["self","store","size","rounds","faults"] ["self","store","size","rounds","faults"] (defScope s_Heart__init):=⟨rfl,rfl,rfl,by decide +kernel,rfl,by decide +kernel,by decide +kernel⟩
theorem sc_Heart_take:FnScope ["self","told"] ["self"] (defScope s_Heart_take):=⟨rfl,rfl,rfl,by decide +kernel,rfl,by decide +kernel,by decide +kernel⟩
theorem sc_Heart_check_answer:FnScope ["self","name"] ["self","name"] (defScope s_Heart_check_answer):=⟨rfl,rfl,rfl,by decide +kernel,rfl,by decide +kernel,by decide +kernel⟩
theorem sc_Heart_answer:FnScope ["self","name","worth"] ["self","name","worth"] (defScope s_Heart_answer):=⟨rfl,rfl,rfl,by decide +kernel,rfl,by decide +kernel,by decide +kernel⟩
theorem sc_Heart_something_waits:FnScope ["self"] ["self"] (defScope s_Heart_something_waits):=⟨rfl,rfl,rfl,by decide +kernel,rfl,by decide +kernel,by decide +kernel⟩
theorem sc_Store__init:FnScope ["self"] ["self"] (defScope s_Store__init):=⟨rfl,rfl,rfl,by decide +kernel,rfl,by decide +kernel,by decide +kernel⟩
theorem sc_Store_write:FnScope ["self","side","cell","worth"] ["self","side","cell","worth"] (defScope s_Store_write):=⟨rfl,rfl,rfl,by decide +kernel,rfl,by decide +kernel,by decide +kernel⟩
theorem sc_Store_drain:FnScope ["self","side","first"] ["self","side"] (defScope s_Store_drain):=⟨rfl,rfl,rfl,by decide +kernel,rfl,by decide +kernel,by decide +kernel⟩
theorem sc_Store_fence:FnScope ["self","side"] ["self","side"] (defScope s_Store_fence):=⟨rfl,rfl,rfl,by decide +kernel,rfl,by decide +kernel,by decide +kernel⟩
theorem sc_Store_read:FnScope ["self","side","cell","waiting"] ["self","side","cell"] (defScope s_Store_read):=⟨rfl,rfl,rfl,by decide +kernel,rfl,by decide +kernel,by decide +kernel⟩
theorem sc_Store_memory:FnScope ["self","cell"] ["self","cell"] (defScope s_Store_memory):=⟨rfl,rfl,rfl,by decide +kernel,rfl,by decide +kernel,by decide +kernel⟩
theorem sc_Store_waits:FnScope ["self","side"] ["self","side"] (defScope s_Store_waits):=⟨rfl,rfl,rfl,by decide +kernel,rfl,by decide +kernel,by decide +kernel⟩
theorem sc_is_whole:FnScope ["value"] ["value"] (defScope s_is_whole):=⟨rfl,rfl,rfl,by decide +kernel,rfl,by decide +kernel,by decide +kernel⟩
theorem sc_is_part:FnScope ["value","kind"] ["value","kind"] (defScope s_is_part):=⟨rfl,rfl,rfl,by decide +kernel,rfl,by decide +kernel,by decide +kernel⟩
theorem sc_is_deed:FnScope ["some","kinds"] ["some"] (defScope s_is_deed):=⟨rfl,rfl,rfl,by decide +kernel,rfl,by decide +kernel,by decide +kernel⟩
theorem sc_side_of:FnScope ["some"] ["some"] (defScope s_side_of):=⟨rfl,rfl,rfl,by decide +kernel,rfl,by decide +kernel,by decide +kernel⟩
theorem sc_Yard__init:FnScope ["self","size","rounds","names","faults"] ["self","size","rounds","names","faults"] (defScope s_Yard__init):=⟨rfl,rfl,rfl,by decide +kernel,rfl,by decide +kernel,by decide +kernel⟩
theorem sc_Yard_deed:FnScope ["self","some","word"] ["self","some"] (defScope s_Yard_deed):=⟨rfl,rfl,rfl,by decide +kernel,rfl,by decide +kernel,by decide +kernel⟩
theorem sc_Yard_story:FnScope ["self"] ["self"] (defScope s_Yard_story):=⟨rfl,rfl,rfl,by decide +kernel,rfl,by decide +kernel,by decide +kernel⟩
theorem sc_Yard_check:FnScope ["self","some"] ["self","some"] (defScope s_Yard_check):=⟨rfl,rfl,rfl,by decide +kernel,rfl,by decide +kernel,by decide +kernel⟩
theorem sc_Yard_do_ask:FnScope ["self","worth","name"] ["self","worth"] (defScope s_Yard_do_ask):=⟨rfl,rfl,rfl,by decide +kernel,rfl,by decide +kernel,by decide +kernel⟩
theorem sc_Yard_do_answer:FnScope ["self","name","worth"] ["self","name","worth"] (defScope s_Yard_do_answer):=⟨rfl,rfl,rfl,by decide +kernel,rfl,by decide +kernel,by decide +kernel⟩
theorem sc_Yard_tell_fetched:FnScope ["self","word","told"] ["self","word","told"] (defScope s_Yard_tell_fetched):=⟨rfl,rfl,rfl,by decide +kernel,rfl,by decide +kernel,by decide +kernel⟩
theorem sc_Yard_do_bell:FnScope ["self","side","other"] ["self","side"] (defScope s_Yard_do_bell):=⟨rfl,rfl,rfl,by decide +kernel,rfl,by decide +kernel,by decide +kernel⟩
theorem sc_Yard_do_lie:FnScope ["self","side"] ["self","side"] (defScope s_Yard_do_lie):=⟨rfl,rfl,rfl,by decide +kernel,rfl,by decide +kernel,by decide +kernel⟩
theorem sc_Yard_do_look:FnScope ["self","side"] ["self","side"] (defScope s_Yard_do_look):=⟨rfl,rfl,rfl,by decide +kernel,rfl,by decide +kernel,by decide +kernel⟩
theorem sc_Yard_something_waits:FnScope ["self","side"] ["self","side"] (defScope s_Yard_something_waits):=⟨rfl,rfl,rfl,by decide +kernel,rfl,by decide +kernel,by decide +kernel⟩
theorem sc_law_cell_at:FnScope ["script","k"] ["script","k"] (defScope s_law_cell_at):=⟨rfl,rfl,rfl,by decide +kernel,rfl,by decide +kernel,by decide +kernel⟩
theorem sc_law_codes:FnScope ["cells","most","codes","cell","rest"] ["cells","most"] (defScope s_law_codes):=⟨rfl,rfl,rfl,by decide +kernel,rfl,by decide +kernel,by decide +kernel⟩
theorem sc_law_make:FnScope ["cell","drawn","size","faults","bits","word"] ["cell"] (defScope s_law_make):=⟨rfl,rfl,rfl,by decide +kernel,rfl,by decide +kernel,by decide +kernel⟩
theorem sc_law_same:FnScope ["found","due","k"] ["found","due"] (defScope s_law_same):=⟨rfl,rfl,rfl,by decide +kernel,rfl,by decide +kernel,by decide +kernel⟩
theorem sc_law_worth:FnScope ["code"] ["code"] (defScope s_law_worth):=⟨rfl,rfl,rfl,by decide +kernel,rfl,by decide +kernel,by decide +kernel⟩
theorem sc_law_deed:FnScope ["code","tasks","word","side","name"] ["code","tasks"] (defScope s_law_deed):=⟨rfl,rfl,rfl,by decide +kernel,rfl,by decide +kernel,by decide +kernel⟩
theorem sc_law_tried:FnScope ["yard","deed","told","refused"] ["yard","deed"] (defScope s_law_tried):=⟨rfl,rfl,rfl,by decide +kernel,rfl,by decide +kernel,by decide +kernel⟩
theorem sc_law_after:FnScope ["tasks","deed","told"] ["tasks","deed","told"] (defScope s_law_after):=⟨rfl,rfl,rfl,by decide +kernel,rfl,by decide +kernel,by decide +kernel⟩
theorem sc_law_happened:FnScope ["deed","told"] ["deed","told"] (defScope s_law_happened):=⟨rfl,rfl,rfl,by decide +kernel,rfl,by decide +kernel,by decide +kernel⟩
theorem sc_law:FnScope ["script","size","rounds","names","faults","yard","beside","tasks","story","kept","code","deed","told","found","due"] ["script"] (defScope s_law):=⟨rfl,rfl,rfl,by decide +kernel,rfl,by decide +kernel,by decide +kernel⟩
structure Ad where
 next_counter:Addr
 place_of:Addr
 ahead_by:Addr
 rounds_with:Addr
 Ring__init:Addr
 Ring_filled:Addr
 Ring_is_full:Addr
 Ring_place_at:Addr
 Ring_write_further:Addr
 Ring_lay:Addr
 Ring_fetch:Addr
 Hand__init:Addr
 Hand_least_free:Addr
 Hand_check_ask:Addr
 Hand_ask:Addr
 Hand_collect:Addr
 Hand_something_waits:Addr
 Heart__init:Addr
 Heart_take:Addr
 Heart_check_answer:Addr
 Heart_answer:Addr
 Heart_tasks:Addr
 Heart_something_waits:Addr
 Store__init:Addr
 Store_write:Addr
 Store_drain:Addr
 Store_fence:Addr
 Store_read:Addr
 Store_memory:Addr
 Store_waits:Addr
 is_whole:Addr
 is_part:Addr
 is_deed:Addr
 side_of:Addr
 Yard__init:Addr
 Yard_deed:Addr
 Yard_story:Addr
 Yard_store:Addr
 Yard_check:Addr
 Yard_do_ask:Addr
 Yard_do_answer:Addr
 Yard_tell_fetched:Addr
 Yard_do_bell:Addr
 Yard_do_lie:Addr
 Yard_do_look:Addr
 Yard_something_waits:Addr
 law_cell_at:Addr
 law_codes:Addr
 law_make:Addr
 law_same:Addr
 law_worth:Addr
 law_deed:Addr
 law_tried:Addr
 law_after:Addr
 law_happened:Addr
 law:Addr
 Ring:Addr
 Hand:Addr
 Heart:Addr
 Store:Addr
 Yard:Addr
 RingError:Addr
 Full:Addr
 NoName:Addr
 NoTask:Addr
 NoDeed:Addr
 T_ASKS:Addr
 T_ANSWERS:Addr
 T_SLEEP_CELLS:Addr
 T_FORMS:Addr
 V_FORMS_0:Addr
 V_FORMS_1:Addr
 V_FORMS_2:Addr
 V_FORMS_3:Addr
 V_FORMS_4:Addr
 V_FORMS_5:Addr
 V_FORMS_6:Addr
 V_FORMS_7:Addr
structure Fd where
 next_counter:FuncData
 place_of:FuncData
 ahead_by:FuncData
 rounds_with:FuncData
 Ring__init:FuncData
 Ring_filled:FuncData
 Ring_is_full:FuncData
 Ring_place_at:FuncData
 Ring_write_further:FuncData
 Ring_lay:FuncData
 Ring_fetch:FuncData
 Hand__init:FuncData
 Hand_least_free:FuncData
 Hand_check_ask:FuncData
 Hand_ask:FuncData
 Hand_collect:FuncData
 Hand_something_waits:FuncData
 Heart__init:FuncData
 Heart_take:FuncData
 Heart_check_answer:FuncData
 Heart_answer:FuncData
 Heart_tasks:FuncData
 Heart_something_waits:FuncData
 Store__init:FuncData
 Store_write:FuncData
 Store_drain:FuncData
 Store_fence:FuncData
 Store_read:FuncData
 Store_memory:FuncData
 Store_waits:FuncData
 is_whole:FuncData
 is_part:FuncData
 is_deed:FuncData
 side_of:FuncData
 Yard__init:FuncData
 Yard_deed:FuncData
 Yard_story:FuncData
 Yard_store:FuncData
 Yard_check:FuncData
 Yard_do_ask:FuncData
 Yard_do_answer:FuncData
 Yard_tell_fetched:FuncData
 Yard_do_bell:FuncData
 Yard_do_lie:FuncData
 Yard_do_look:FuncData
 Yard_something_waits:FuncData
 law_cell_at:FuncData
 law_codes:FuncData
 law_make:FuncData
 law_same:FuncData
 law_worth:FuncData
 law_deed:FuncData
 law_tried:FuncData
 law_after:FuncData
 law_happened:FuncData
 law:FuncData
structure Gs (K:PySem.W.Frag) (mg:Str->Option Value) (a:Ad) (d:Fd):Prop where
 f_next_counter:Fun K "next_counter" "next_counter" s_next_counter a.next_counter d.next_counter
 b_next_counter:Binds K d.next_counter ["counter","size","rounds"] []
 m_next_counter:mg "next_counter"=some (.ref a.next_counter)
 f_place_of:Fun K "place_of" "place_of" s_place_of a.place_of d.place_of
 b_place_of:Binds K d.place_of ["counter","size"] []
 m_place_of:mg "place_of"=some (.ref a.place_of)
 f_ahead_by:Fun K "ahead_by" "ahead_by" s_ahead_by a.ahead_by d.ahead_by
 b_ahead_by:Binds K d.ahead_by ["one","other","size","rounds"] []
 m_ahead_by:mg "ahead_by"=some (.ref a.ahead_by)
 f_rounds_with:Fun K "rounds_with" "rounds_with" s_rounds_with a.rounds_with d.rounds_with
 b_rounds_with:Binds K d.rounds_with ["rounds","faults"] []
 m_rounds_with:mg "rounds_with"=some (.ref a.rounds_with)
 f_Ring__init:Fun K "__init__" "Ring.__init__" s_Ring__init a.Ring__init d.Ring__init
 b_Ring__init:Binds K d.Ring__init ["self","store","side","words","size","rounds","faults"] []
 f_Ring_filled:Fun K "filled" "Ring.filled" s_Ring_filled a.Ring_filled d.Ring_filled
 b_Ring_filled:Binds K d.Ring_filled ["self"] []
 mt_Ring_filled:Meth K a.Ring "filled" a.Ring_filled
 f_Ring_is_full:Fun K "is_full" "Ring.is_full" s_Ring_is_full a.Ring_is_full d.Ring_is_full
 b_Ring_is_full:Binds K d.Ring_is_full ["self"] []
 mt_Ring_is_full:Meth K a.Ring "is_full" a.Ring_is_full
 f_Ring_place_at:Fun K "place_at" "Ring.place_at" s_Ring_place_at a.Ring_place_at d.Ring_place_at
 b_Ring_place_at:Binds K d.Ring_place_at ["self","counter"] []
 mt_Ring_place_at:Meth K a.Ring "place_at" a.Ring_place_at
 f_Ring_write_further:Fun K "write_further" "Ring.write_further" s_Ring_write_further a.Ring_write_further d.Ring_write_further
 b_Ring_write_further:Binds K d.Ring_write_further ["self","cell","counter"] []
 mt_Ring_write_further:Meth K a.Ring "write_further" a.Ring_write_further
 f_Ring_lay:Fun K "lay" "Ring.lay" s_Ring_lay a.Ring_lay d.Ring_lay
 b_Ring_lay:Binds K d.Ring_lay ["self","name","worth"] []
 mt_Ring_lay:Meth K a.Ring "lay" a.Ring_lay
 f_Ring_fetch:Fun K "fetch" "Ring.fetch" s_Ring_fetch a.Ring_fetch d.Ring_fetch
 b_Ring_fetch:Binds K d.Ring_fetch ["self"] []
 mt_Ring_fetch:Meth K a.Ring "fetch" a.Ring_fetch
 f_Hand__init:Fun K "__init__" "Hand.__init__" s_Hand__init a.Hand__init d.Hand__init
 b_Hand__init:Binds K d.Hand__init ["self","store","size","rounds","names","faults"] []
 f_Hand_least_free:Fun K "least_free" "Hand.least_free" s_Hand_least_free a.Hand_least_free d.Hand_least_free
 b_Hand_least_free:Binds K d.Hand_least_free ["self"] []
 mt_Hand_least_free:Meth K a.Hand "least_free" a.Hand_least_free
 f_Hand_check_ask:Fun K "check_ask" "Hand.check_ask" s_Hand_check_ask a.Hand_check_ask d.Hand_check_ask
 b_Hand_check_ask:Binds K d.Hand_check_ask ["self"] []
 mt_Hand_check_ask:Meth K a.Hand "check_ask" a.Hand_check_ask
 f_Hand_ask:Fun K "ask" "Hand.ask" s_Hand_ask a.Hand_ask d.Hand_ask
 b_Hand_ask:Binds K d.Hand_ask ["self","worth"] []
 mt_Hand_ask:Meth K a.Hand "ask" a.Hand_ask
 f_Hand_collect:Fun K "collect" "Hand.collect" s_Hand_collect a.Hand_collect d.Hand_collect
 b_Hand_collect:Binds K d.Hand_collect ["self"] []
 mt_Hand_collect:Meth K a.Hand "collect" a.Hand_collect
 f_Hand_something_waits:Fun K "something_waits" "Hand.something_waits" s_Hand_something_waits a.Hand_something_waits d.Hand_something_waits
 b_Hand_something_waits:Binds K d.Hand_something_waits ["self"] []
 mt_Hand_something_waits:Meth K a.Hand "something_waits" a.Hand_something_waits
 f_Heart__init:Fun K "__init__" "Heart.__init__" s_Heart__init a.Heart__init d.Heart__init
 b_Heart__init:Binds K d.Heart__init ["self","store","size","rounds","faults"] []
 f_Heart_take:Fun K "take" "Heart.take" s_Heart_take a.Heart_take d.Heart_take
 b_Heart_take:Binds K d.Heart_take ["self"] []
 mt_Heart_take:Meth K a.Heart "take" a.Heart_take
 f_Heart_check_answer:Fun K "check_answer" "Heart.check_answer" s_Heart_check_answer a.Heart_check_answer d.Heart_check_answer
 b_Heart_check_answer:Binds K d.Heart_check_answer ["self","name"] []
 mt_Heart_check_answer:Meth K a.Heart "check_answer" a.Heart_check_answer
 f_Heart_answer:Fun K "answer" "Heart.answer" s_Heart_answer a.Heart_answer d.Heart_answer
 b_Heart_answer:Binds K d.Heart_answer ["self","name","worth"] []
 mt_Heart_answer:Meth K a.Heart "answer" a.Heart_answer
 f_Heart_tasks:Fun K "tasks" "Heart.tasks" s_Heart_tasks a.Heart_tasks d.Heart_tasks
 b_Heart_tasks:Binds K d.Heart_tasks ["self"] []
 mt_Heart_tasks:Meth K a.Heart "tasks" a.Heart_tasks
 f_Heart_something_waits:Fun K "something_waits" "Heart.something_waits" s_Heart_something_waits a.Heart_something_waits d.Heart_something_waits
 b_Heart_something_waits:Binds K d.Heart_something_waits ["self"] []
 mt_Heart_something_waits:Meth K a.Heart "something_waits" a.Heart_something_waits
 f_Store__init:Fun K "__init__" "Store.__init__" s_Store__init a.Store__init d.Store__init
 b_Store__init:Binds K d.Store__init ["self"] []
 f_Store_write:Fun K "write" "Store.write" s_Store_write a.Store_write d.Store_write
 b_Store_write:Binds K d.Store_write ["self","side","cell","worth"] []
 mt_Store_write:Meth K a.Store "write" a.Store_write
 f_Store_drain:Fun K "drain" "Store.drain" s_Store_drain a.Store_drain d.Store_drain
 b_Store_drain:Binds K d.Store_drain ["self","side"] []
 mt_Store_drain:Meth K a.Store "drain" a.Store_drain
 f_Store_fence:Fun K "fence" "Store.fence" s_Store_fence a.Store_fence d.Store_fence
 b_Store_fence:Binds K d.Store_fence ["self","side"] []
 mt_Store_fence:Meth K a.Store "fence" a.Store_fence
 f_Store_read:Fun K "read" "Store.read" s_Store_read a.Store_read d.Store_read
 b_Store_read:Binds K d.Store_read ["self","side","cell"] []
 mt_Store_read:Meth K a.Store "read" a.Store_read
 f_Store_memory:Fun K "memory" "Store.memory" s_Store_memory a.Store_memory d.Store_memory
 b_Store_memory:Binds K d.Store_memory ["self","cell"] []
 mt_Store_memory:Meth K a.Store "memory" a.Store_memory
 f_Store_waits:Fun K "waits" "Store.waits" s_Store_waits a.Store_waits d.Store_waits
 b_Store_waits:Binds K d.Store_waits ["self","side"] []
 mt_Store_waits:Meth K a.Store "waits" a.Store_waits
 f_is_whole:Fun K "is_whole" "is_whole" s_is_whole a.is_whole d.is_whole
 b_is_whole:Binds K d.is_whole ["value"] []
 m_is_whole:mg "is_whole"=some (.ref a.is_whole)
 f_is_part:Fun K "is_part" "is_part" s_is_part a.is_part d.is_part
 b_is_part:Binds K d.is_part ["value","kind"] []
 m_is_part:mg "is_part"=some (.ref a.is_part)
 f_is_deed:Fun K "is_deed" "is_deed" s_is_deed a.is_deed d.is_deed
 b_is_deed:Binds K d.is_deed ["some"] []
 m_is_deed:mg "is_deed"=some (.ref a.is_deed)
 f_side_of:Fun K "side_of" "side_of" s_side_of a.side_of d.side_of
 b_side_of:Binds K d.side_of ["some"] []
 m_side_of:mg "side_of"=some (.ref a.side_of)
 f_Yard__init:Fun K "__init__" "Yard.__init__" s_Yard__init a.Yard__init d.Yard__init
 b_Yard__init:Binds K d.Yard__init ["self","size","rounds","names","faults"] []
 f_Yard_deed:Fun K "deed" "Yard.deed" s_Yard_deed a.Yard_deed d.Yard_deed
 b_Yard_deed:Binds K d.Yard_deed ["self","some"] []
 mt_Yard_deed:Meth K a.Yard "deed" a.Yard_deed
 f_Yard_story:Fun K "story" "Yard.story" s_Yard_story a.Yard_story d.Yard_story
 b_Yard_story:Binds K d.Yard_story ["self"] []
 mt_Yard_story:Meth K a.Yard "story" a.Yard_story
 f_Yard_store:Fun K "store" "Yard.store" s_Yard_store a.Yard_store d.Yard_store
 b_Yard_store:Binds K d.Yard_store ["self"] []
 mt_Yard_store:Meth K a.Yard "store" a.Yard_store
 f_Yard_check:Fun K "check" "Yard.check" s_Yard_check a.Yard_check d.Yard_check
 b_Yard_check:Binds K d.Yard_check ["self","some"] []
 mt_Yard_check:Meth K a.Yard "check" a.Yard_check
 f_Yard_do_ask:Fun K "do_ask" "Yard.do_ask" s_Yard_do_ask a.Yard_do_ask d.Yard_do_ask
 b_Yard_do_ask:Binds K d.Yard_do_ask ["self","worth"] []
 mt_Yard_do_ask:Meth K a.Yard "do_ask" a.Yard_do_ask
 f_Yard_do_answer:Fun K "do_answer" "Yard.do_answer" s_Yard_do_answer a.Yard_do_answer d.Yard_do_answer
 b_Yard_do_answer:Binds K d.Yard_do_answer ["self","name","worth"] []
 mt_Yard_do_answer:Meth K a.Yard "do_answer" a.Yard_do_answer
 f_Yard_tell_fetched:Fun K "tell_fetched" "Yard.tell_fetched" s_Yard_tell_fetched a.Yard_tell_fetched d.Yard_tell_fetched
 b_Yard_tell_fetched:Binds K d.Yard_tell_fetched ["self","word","told"] []
 mt_Yard_tell_fetched:Meth K a.Yard "tell_fetched" a.Yard_tell_fetched
 f_Yard_do_bell:Fun K "do_bell" "Yard.do_bell" s_Yard_do_bell a.Yard_do_bell d.Yard_do_bell
 b_Yard_do_bell:Binds K d.Yard_do_bell ["self","side"] []
 mt_Yard_do_bell:Meth K a.Yard "do_bell" a.Yard_do_bell
 f_Yard_do_lie:Fun K "do_lie" "Yard.do_lie" s_Yard_do_lie a.Yard_do_lie d.Yard_do_lie
 b_Yard_do_lie:Binds K d.Yard_do_lie ["self","side"] []
 mt_Yard_do_lie:Meth K a.Yard "do_lie" a.Yard_do_lie
 f_Yard_do_look:Fun K "do_look" "Yard.do_look" s_Yard_do_look a.Yard_do_look d.Yard_do_look
 b_Yard_do_look:Binds K d.Yard_do_look ["self","side"] []
 mt_Yard_do_look:Meth K a.Yard "do_look" a.Yard_do_look
 f_Yard_something_waits:Fun K "something_waits" "Yard.something_waits" s_Yard_something_waits a.Yard_something_waits d.Yard_something_waits
 b_Yard_something_waits:Binds K d.Yard_something_waits ["self","side"] []
 mt_Yard_something_waits:Meth K a.Yard "something_waits" a.Yard_something_waits
 f_law_cell_at:Fun K "_law_cell_at" "_law_cell_at" s_law_cell_at a.law_cell_at d.law_cell_at
 b_law_cell_at:Binds K d.law_cell_at ["script","k"] []
 m_law_cell_at:mg "_law_cell_at"=some (.ref a.law_cell_at)
 f_law_codes:Fun K "_law_codes" "_law_codes" s_law_codes a.law_codes d.law_codes
 b_law_codes:Binds K d.law_codes ["cells","most"] []
 m_law_codes:mg "_law_codes"=some (.ref a.law_codes)
 f_law_make:Fun K "_law_make" "_law_make" s_law_make a.law_make d.law_make
 b_law_make:Binds K d.law_make ["cell"] []
 m_law_make:mg "_law_make"=some (.ref a.law_make)
 f_law_same:Fun K "_law_same" "_law_same" s_law_same a.law_same d.law_same
 b_law_same:Binds K d.law_same ["found","due"] []
 m_law_same:mg "_law_same"=some (.ref a.law_same)
 f_law_worth:Fun K "_law_worth" "_law_worth" s_law_worth a.law_worth d.law_worth
 b_law_worth:Binds K d.law_worth ["code"] []
 m_law_worth:mg "_law_worth"=some (.ref a.law_worth)
 f_law_deed:Fun K "_law_deed" "_law_deed" s_law_deed a.law_deed d.law_deed
 b_law_deed:Binds K d.law_deed ["code","tasks"] []
 m_law_deed:mg "_law_deed"=some (.ref a.law_deed)
 f_law_tried:Fun K "_law_tried" "_law_tried" s_law_tried a.law_tried d.law_tried
 b_law_tried:Binds K d.law_tried ["yard","deed"] []
 m_law_tried:mg "_law_tried"=some (.ref a.law_tried)
 f_law_after:Fun K "_law_after" "_law_after" s_law_after a.law_after d.law_after
 b_law_after:Binds K d.law_after ["tasks","deed","told"] []
 m_law_after:mg "_law_after"=some (.ref a.law_after)
 f_law_happened:Fun K "_law_happened" "_law_happened" s_law_happened a.law_happened d.law_happened
 b_law_happened:Binds K d.law_happened ["deed","told"] []
 m_law_happened:mg "_law_happened"=some (.ref a.law_happened)
 f_law:Fun K "law" "law" s_law a.law d.law
 b_law:Binds K d.law ["script"] []
 m_law:mg "law"=some (.ref a.law)
 cl_Ring:Cls K a.Ring
 m_Ring:mg "Ring"=some (.ref a.Ring)
 k_Ring:Mk K a.Ring a.Ring__init
 na_Ring_shelf:NoAttr K a.Ring "shelf"
 na_Ring_side:NoAttr K a.Ring "side"
 na_Ring_word:NoAttr K a.Ring "word"
 na_Ring_laid:NoAttr K a.Ring "laid"
 na_Ring_fetched:NoAttr K a.Ring "fetched"
 na_Ring_size:NoAttr K a.Ring "size"
 na_Ring_rounds:NoAttr K a.Ring "rounds"
 na_Ring_counter_first:NoAttr K a.Ring "counter_first"
 cl_Hand:Cls K a.Hand
 m_Hand:mg "Hand"=some (.ref a.Hand)
 k_Hand:Mk K a.Hand a.Hand__init
 na_Hand_asks:NoAttr K a.Hand "asks"
 na_Hand_answers:NoAttr K a.Hand "answers"
 na_Hand_names:NoAttr K a.Hand "names"
 na_Hand_going:NoAttr K a.Hand "going"
 cl_Heart:Cls K a.Heart
 m_Heart:mg "Heart"=some (.ref a.Heart)
 k_Heart:Mk K a.Heart a.Heart__init
 na_Heart_asks:NoAttr K a.Heart "asks"
 na_Heart_answers:NoAttr K a.Heart "answers"
 na_Heart_doing:NoAttr K a.Heart "doing"
 cl_Store:Cls K a.Store
 m_Store:mg "Store"=some (.ref a.Store)
 k_Store:Mk K a.Store a.Store__init
 na_Store_held:NoAttr K a.Store "held"
 na_Store_rows:NoAttr K a.Store "rows"
 cl_Yard:Cls K a.Yard
 m_Yard:mg "Yard"=some (.ref a.Yard)
 k_Yard:Mk K a.Yard a.Yard__init
 na_Yard_size:NoAttr K a.Yard "size"
 na_Yard_rounds:NoAttr K a.Yard "rounds"
 na_Yard_faults:NoAttr K a.Yard "faults"
 na_Yard_shelf:NoAttr K a.Yard "shelf"
 na_Yard_hand:NoAttr K a.Yard "hand"
 na_Yard_heart:NoAttr K a.Yard "heart"
 na_Yard_bell_fences:NoAttr K a.Yard "bell_fences"
 na_Yard_lie_fences:NoAttr K a.Yard "lie_fences"
 na_Yard_look_sees:NoAttr K a.Yard "look_sees"
 na_Yard_sleepers:NoAttr K a.Yard "sleepers"
 na_Yard_quiet:NoAttr K a.Yard "quiet"
 na_Yard_happened:NoAttr K a.Yard "happened"
 n_all:mg "all"=none
 n_bool:mg "bool"=none
 n_int:mg "int"=none
 n_isinstance:mg "isinstance"=none
 n_len:mg "len"=none
 n_list:mg "list"=none
 n_range:mg "range"=none
 n_reversed:mg "reversed"=none
 n_sorted:mg "sorted"=none
 n_str:mg "str"=none
 n_tuple:mg "tuple"=none
 n_zip:mg "zip"=none
 m_RingError:mg "RingError"=some (.ref a.RingError)
 m_Full:mg "Full"=some (.ref a.Full)
 m_NoName:mg "NoName"=some (.ref a.NoName)
 m_NoTask:mg "NoTask"=some (.ref a.NoTask)
 m_NoDeed:mg "NoDeed"=some (.ref a.NoDeed)
 m_ASKS:mg "ASKS"=some (.ref a.T_ASKS)
 t_ASKS:∀ H,SqT K H a.T_ASKS [.str "ask",.str "asked",.str "taken"]
 m_ANSWERS:mg "ANSWERS"=some (.ref a.T_ANSWERS)
 t_ANSWERS:∀ H,SqT K H a.T_ANSWERS [.str "answer",.str "answered",.str "handed"]
 m_SLEEP_CELLS:mg "SLEEP_CELLS"=some (.ref a.T_SLEEP_CELLS)
 t_SLEEP_CELLS:∀ H,SqT K H a.T_SLEEP_CELLS [.str "hand sleeps",.str "heart sleeps"]
 m_MOST_WORTH:∃ t,mg "MOST_WORTH"=some (.int 1000000000 t)
 m_FORMS:mg "FORMS"=some (.ref a.T_FORMS)
 f_FORMS:TabK K a.T_FORMS [("ask",a.V_FORMS_0),("collect",a.V_FORMS_1),("take",a.V_FORMS_2),("answer",a.V_FORMS_3),("bell",a.V_FORMS_4),("lie",a.V_FORMS_5),("look",a.V_FORMS_6),("drain",a.V_FORMS_7)]
 v_FORMS_0:∀ H,SqT K H a.V_FORMS_0 [.str "worth"]
 v_FORMS_1:∀ H,SqT K H a.V_FORMS_1 []
 v_FORMS_2:∀ H,SqT K H a.V_FORMS_2 []
 v_FORMS_3:∀ H,SqT K H a.V_FORMS_3 [.str "name",.str "worth"]
 v_FORMS_4:∀ H,SqT K H a.V_FORMS_4 [.str "side"]
 v_FORMS_5:∀ H,SqT K H a.V_FORMS_5 [.str "side"]
 v_FORMS_6:∀ H,SqT K H a.V_FORMS_6 [.str "side"]
 v_FORMS_7:∀ H,SqT K H a.V_FORMS_7 [.str "side"]
 xc_Full:PySem.W.excIn K a.Full veB "ValueError.__new__"=true
 xc_NoName:PySem.W.excIn K a.NoName veB "ValueError.__new__"=true
 xc_NoTask:PySem.W.excIn K a.NoTask veB "ValueError.__new__"=true
 xc_NoDeed:PySem.W.excIn K a.NoDeed veB "ValueError.__new__"=true
 em_dd:PySem.W.exmOne K (.ref a.NoDeed) (.ref a.NoDeed)=some true
 em_df:PySem.W.exmOne K (.ref a.NoDeed) (.ref a.Full)=some false
 em_dn:PySem.W.exmOne K (.ref a.NoDeed) (.ref a.NoName)=some false
 em_dt:PySem.W.exmOne K (.ref a.NoDeed) (.ref a.NoTask)=some false
 em_fd:PySem.W.exmOne K (.ref a.Full) (.ref a.NoDeed)=some false
 em_ff:PySem.W.exmOne K (.ref a.Full) (.ref a.Full)=some true
 em_fn:PySem.W.exmOne K (.ref a.Full) (.ref a.NoName)=some false
 em_ft:PySem.W.exmOne K (.ref a.Full) (.ref a.NoTask)=some false
 em_nd:PySem.W.exmOne K (.ref a.NoName) (.ref a.NoDeed)=some false
 em_nf:PySem.W.exmOne K (.ref a.NoName) (.ref a.Full)=some false
 em_nn:PySem.W.exmOne K (.ref a.NoName) (.ref a.NoName)=some true
 em_nt:PySem.W.exmOne K (.ref a.NoName) (.ref a.NoTask)=some false
 em_td:PySem.W.exmOne K (.ref a.NoTask) (.ref a.NoDeed)=some false
 em_tf:PySem.W.exmOne K (.ref a.NoTask) (.ref a.Full)=some false
 em_tn:PySem.W.exmOne K (.ref a.NoTask) (.ref a.NoName)=some false
 em_tt:PySem.W.exmOne K (.ref a.NoTask) (.ref a.NoTask)=some true
theorem iteDF {c A B:Prop} [Decidable c] (hc:¬ c) (h:B):if decide c=true then A else B:=by
 rw [decide_eq_false hc];exact iteF h
theorem iteDT {c A B:Prop} [Decidable c] (hc:c) (h:A):if decide c=true then A else B:=by
 rw [decide_eq_true hc];exact iteT h
theorem vint_inj {i j:Int} (h:V.int i=V.int j):i=j:=by injection h
theorem sne {a b:Str} (h:a≠b):¬ V.str a=V.str b:=λy=>h (by injection y)
theorem l3 {x y z:V}:[x,y,z].length <= sizeLine:=by show 3 <= sizeLine;decide
def sp_init (w:World) (C:Addr):Sp:=λvs H Q _=>∃ x dx,vs=[.ref x]/\H x=some (.ins C dx []) /\
 ∀ (hd rl:Addr) (l:Bool->Addr) (H':Hp),H hd=none->H rl=none->(∀ b,H (l b)=none)->Sto w C H' x hd rl l [] (λ_=>[])->Kp [x] H H'->Q .non H'
def sp_write (w:World) (C:Addr):Sp:=λvs H Q _=>∃ (x hd rl:Addr) (l:Bool->Addr) (M:List (PyData × V)) (r:Bool->List (PyData × V)) (b:Bool) (cv wv:V) (k:PyData),vs=[.ref x,.int (sdI b),cv,wv]/\Sto w C H x hd rl l M r/\(r b).length < 100000/\KeyV H k cv /\
 ∀ H',Sto w C H' x hd rl l M (setR r b (r b++[(k,wv)]))->Kp [l b] H H'->Q .non H'
def sp_drain (w:World) (C:Addr):Sp:=λvs H Q _=>∃ (x hd rl:Addr) (l:Bool->Addr) (M:List (PyData × V)) (r:Bool->List (PyData × V)) (b:Bool) (k:PyData) (v:V) (rest:List (PyData × V)),vs=[.ref x,.int (sdI b)]/\Sto w C H x hd rl l M r/\r b=(k,v) :: rest/\M.length < 100000 /\
 ∀ H',Sto w C H' x hd rl l (putD M k v) (setR r b rest)->Kp [l b,hd] H H'->Q .non H'
def sp_fence (w:World) (C:Addr):Sp:=λvs H Q _=>∃ (x hd rl:Addr) (l:Bool->Addr) (M:List (PyData × V)) (r:Bool->List (PyData × V)) (b:Bool),vs=[.ref x,.int (sdI b)]/\Sto w C H x hd rl l M r/\M.length+(r b).length < 100000 /\
 ∀ H',Sto w C H' x hd rl l (drainAll M (r b)) (setR r b [])->Kp [l b,hd] H H'->Q .non H'
def sp_read (w:World) (C:Addr):Sp:=λvs H Q _=>∃ (x hd rl:Addr) (l:Bool->Addr) (M:List (PyData × V)) (r:Bool->List (PyData × V)) (b:Bool) (cv:V) (k:PyData),vs=[.ref x,.int (sdI b),cv]/\Sto w C H x hd rl l M r/\KeyV H k cv/\Q (readV M (r b) k) H
def sp_memory (w:World) (C:Addr):Sp:=λvs H Q _=>∃ (x hd rl:Addr) (l:Bool->Addr) (M:List (PyData × V)) (r:Bool->List (PyData × V)) (cv:V) (k:PyData),vs=[.ref x,cv]/\Sto w C H x hd rl l M r/\KeyV H k cv/\Q ((lookD M k).getD (.int 0)) H
def sp_waits (w:World) (C:Addr):Sp:=λvs H Q _=>∃ (x hd rl:Addr) (l:Bool->Addr) (M:List (PyData × V)) (r:Bool->List (PyData × V)) (b:Bool),vs=[.ref x,.int (sdI b)]/\Sto w C H x hd rl l M r /\
 ∀ (p:Addr) (ts:List V),H p=none->Paired (Wt H) (r b) ts->Q (.ref p) (upd H p (.lst ts))
theorem many:100000 <= sizeLine:=by decide
theorem l2 {x y:V}:[x,y].length <= sizeLine:=by show 2 <= sizeLine;decide
section
variable {P:Program} {w:World} {K:PySem.W.Frag} {mg:Str->Option Value} {base:Heap} {a:Ad} {d:Fd}
theorem ok_init (G:Gs K mg a d):FnOk P w K mg base CX0 1 a.Store__init d.Store__init ["self"] (sp_init w a.Store):=by
 refine G.f_Store__init.ok sc_Store__init (λvs H Q E h=>?_) (λcdv A outer s H vs Q E hr h=>?_)
 · obtain ⟨x,dx,rfl,_⟩:=h
   rfl
 · obtain ⟨x,dx,rfl,hx,k⟩:=h
   refine ⟨_,(@pss_cons _ _ _ _ _ (ps_fld (pv 0) pe_mnew rfl)
     (@pss_one _ _ _ (ps_fld (pv 0) (@pe_lst _ _ _ _ (@pa_cons _ _ _ _ _ (@pe_lst _ _ _ _ pa_nil) (@pa_cons _ _ _ _ _ (@pe_lst _ _ _ _ pa_nil) pa_nil (by rfl)) (by rfl))) rfl))),?_⟩
   intro hd hhd
   have n0:x≠hd:=ne_of_none hx hhd
   refine ⟨_,rfl,x,a.Store,dx,[],rfl,(by rw [upd_ne n0];exact hx),G.cl_Store,G.na_Store_held,(by show 0 < 1000;decide),?_⟩
   refine ⟨by show 0 <= sizeLine;decide,λl0 h0=>⟨by show 0 <= sizeLine;decide,λl1 h1=>⟨l2,λrl hrl=>⟨_,rfl,x,a.Store,dx,putF "held" (.ref hd) [],rfl,?_,G.cl_Store,G.na_Store_rows,by show 1 < 1000;decide,?_⟩⟩⟩⟩
   all_goals
     have m0:x≠l0:=ne_of_none upd_same h0
     have m1:x≠l1:=ne_of_none (o:=.ins a.Store dx (putF "held" (.ref hd) [])) (by rw [upd_ne m0];exact upd_same) h1
     have m2:x≠rl:=ne_of_none (o:=.ins a.Store dx (putF "held" (.ref hd) [])) (by rw [upd_ne m1,upd_ne m0];exact upd_same) hrl
   · rw [upd_ne m2,upd_ne m1,upd_ne m0];exact upd_same
   · have q0:hd≠l0:=ne_of_none (o:=DObj hd [] 0) (by rw [upd_ne n0.symm];exact upd_same) h0
     have q1:hd≠l1:=ne_of_none (o:=DObj hd [] 0) (by rw [upd_ne q0,upd_ne n0.symm];exact upd_same) h1
     have q2:hd≠rl:=ne_of_none (o:=DObj hd [] 0) (by rw [upd_ne q1,upd_ne q0,upd_ne n0.symm];exact upd_same) hrl
     have r1:l0≠l1:=ne_of_none upd_same h1
     have r2:l0≠rl:=ne_of_none (o:=.lst []) (by rw [upd_ne r1];exact upd_same) hrl
     have r3:l1≠rl:=ne_of_none upd_same hrl
     have e0:∀ c o,H c=some o->c≠hd:=λc o e=>ne_of_none e hhd
     have f0:H l0=none:=by
       cases z:H l0 with
       | none=>rfl
       | some o=>rw [upd_ne m0.symm,upd_ne q0.symm,z] at h0;cases h0
     have f1:H l1=none:=by
       cases z:H l1 with
       | none=>rfl
       | some o=>rw [upd_ne r1.symm,upd_ne m1.symm,upd_ne q1.symm,z] at h1;cases h1
     have f2:H rl=none:=by
       cases z:H rl with
       | none=>rfl
       | some o=>rw [upd_ne r3.symm,upd_ne r2.symm,upd_ne m2.symm,upd_ne q2.symm,z] at hrl;cases hrl
     refine k hd rl (λb=>if b then l1 else l0) _ hhd f2 (λb=>by cases b;exact f0;exact f1) ⟨⟨dx,upd_same⟩,⟨[],0,by rw [upd_ne n0.symm,upd_ne q2,upd_ne q1,upd_ne q0,upd_ne n0.symm,upd_same],.nil,List.nodup_nil,Nat.zero_le _⟩,by rw [upd_ne m2.symm,upd_same];rfl,λb=>⟨[],?_,.nil⟩,r1,λb=>by cases b;exact r2;exact r3⟩ λc o n e=>?_
     · cases b
       · show upd _ x _ l0=_
         rw [upd_ne m0.symm,upd_ne r2,upd_ne r1,upd_same]
       · show upd _ x _ l1=_
         rw [upd_ne m1.symm,upd_ne r3,upd_same]
     · have c0:c≠x:=λz=>n (List.mem_singleton.mpr z)
       rw [upd_ne c0,upd_ne (ne_of_none e f2),upd_ne (ne_of_none e f1),upd_ne (ne_of_none e f0),upd_ne c0,upd_ne (e0 c o e)]
       exact e
theorem ok_write (G:Gs K mg a d):FnOk P w K mg base CX0 1 a.Store_write d.Store_write ["self","side","cell","worth"] (sp_write w a.Store):=by
 refine G.f_Store_write.ok sc_Store_write (λvs H Q E h=>?_) (λcdv A outer s H vs Q E hr h=>?_)
 · obtain ⟨x,hd,rl,l,M,r,b,cv,wv,k,rfl,_⟩:=h
   rfl
 · obtain ⟨x,hd,rl,l,M,r,b,cv,wv,k,rfl,S,hlen,hk,q⟩:=h
   refine ⟨_,(@pss_one _ _ _ (@ps_expr _ _ _ _ (@pe_bm _ _ _ _ _ _ _ _ _ _ _ _ PySem.F.plainAttrs_list PySem.F.slot_list_append PySem.F.type_list_append mt_append (@pe_ix _ _ _ _ _ _ _ ix_list (pe_fld (pv 0) rfl) (pv 1) (λ_ _=>rfl)) (@pa_cons _ _ _ _ _ (@pe_tup _ _ _ _ _ (@pa_cons _ _ _ _ _ (pv 2) (@pa_cons _ _ _ _ _ (pv 3) pa_nil (by rfl)) (by rfl))) pa_nil (by rfl)) (by rfl) (by rfl) (by rfl) (by rfl) (by rfl)) (by rfl))),?_⟩
   obtain ⟨dx,hx⟩:=S.ob
   obtain ⟨ts,hl,hp⟩:=S.rw b
   have hn:=pairedLen hp
   refine ⟨_,rfl,x,a.Store,dx,_,_,rfl,hx,G.cl_Store,G.na_Store_rows,stF_rows,_,rfl,rl,_,_,_,rfl,rfl,SqL.of S.ro,sdI_at b,.inl ⟨rfl,_,SqL.of hl⟩,_,rfl,_,rfl,l2,λt ht=>⟨l b,ts,.ref t,rfl,rfl,by rw [upd_ne (ne_of_none hl ht)];exact hl,Nat.lt_of_lt_of_le (by omega) many,?_⟩⟩
   have tne:∀ c o,H c=some o->c≠t:=λc o e=>ne_of_none e ht
   have tl:t≠l b:=(tne _ _ hl).symm
   have kp:Kp [l b] H (upd (upd H t (.tup [cv,wv])) (l b) (.lst (ts++[.ref t]))):=λc o n e=>by
     rw [upd_ne λz=>n (List.mem_singleton.mpr z),upd_ne (tne c o e)];exact e
   have kt:∀ c vs,H c=some (.tup vs)->upd (upd H t (.tup [cv,wv])) (l b) (.lst (ts++[.ref t])) c=some (.tup vs):=λc vs e=>kp c _ (λz=>by
     rw [List.mem_singleton.mp z,hl] at e;cases e) e
   refine q _ ⟨⟨dx,kp _ _ (λz=>by rw [List.mem_singleton.mp z,hl] at hx;cases hx) hx⟩,S.me.keepS (λo e=>kp _ _ (λz=>by
     obtain ⟨es,e'⟩:=S.me.there
     rw [List.mem_singleton.mp z,hl] at e';cases e') e) kt,kp _ _ (λz=>S.nr b (List.mem_singleton.mp z).symm) S.ro,λc=>?_,S.nl,S.nr⟩ kp
   by_cases z:c=b
   · subst z
     rw [setR_same]
     exact ⟨_,upd_same,Paired.snoc (Paired.mapP hp λ_ _ q=>q.keep kt) ⟨t,cv,rfl,by rw [upd_ne tl];exact upd_same,hk.keep kt⟩⟩
   · rw [setR_ne z]
     exact (S.rw c).keep (λo e=>kp _ _ (λy=>by
       have y':=List.mem_singleton.mp y
       cases c<;>cases b
       · exact z rfl
       · exact S.nl y'
       · exact S.nl y'.symm
       · exact z rfl) e) kt
theorem ok_drain (G:Gs K mg a d):FnOk P w K mg base CX0 1 a.Store_drain d.Store_drain ["self","side"] (sp_drain w a.Store):=by
 refine G.f_Store_drain.ok sc_Store_drain (λvs H Q E h=>?_) (λcdv A outer s H vs Q E hr h=>?_)
 · obtain ⟨x,hd,rl,l,M,r,b,k,v,rest,rfl,_⟩:=h
   rfl
 · obtain ⟨x,hd,rl,l,M,r,b,k,v,rest,rfl,S,hrow,hlen,q⟩:=h
   refine ⟨_,(@pss_cons _ _ _ _ _ (ps_if (pt_not (pt_truth (@pe_ix _ _ _ _ _ _ _ ix_list (pe_fld (pv 0) rfl) (pv 1) (λ_ _=>rfl)) (λ_=>rfl))) (@pss_one _ _ _ ps_never) pss_nil)
     (@pss_cons _ _ _ _ _ (@ps_set _ _ 2 _ _ _ _ sc_Store_drain.nd rfl (Or.inl rfl) (@pe_bm _ _ _ _ _ _ _ _ _ _ _ _ PySem.F.plainAttrs_list PySem.F.slot_list_pop PySem.F.type_list_pop mt_popAt (@pe_ix _ _ _ _ _ _ _ ix_list (pe_fld (pv 0) rfl) (pv 1) (λ_ _=>rfl)) (@pa_cons _ _ _ _ _ pe_int pa_nil (by rfl)) (by rfl) (by rfl) (by rfl) (by rfl) (by rfl)) (by rfl) (by first | exact .inl rfl | exact .inr rfl | assumption))
     (@pss_one _ _ _ (ps_mput hr.units (pe_fld (pv 0) rfl) (@pe_ix _ _ _ _ _ _ _ ix_tup (pv 2) pe_int (λ_ _=>rfl)) (@pe_ix _ _ _ _ _ _ _ ix_tup (pv 2) pe_int (λ_ _=>rfl)) rfl)))),?_⟩
   obtain ⟨dx,hx⟩:=S.ob
   obtain ⟨ts0,hl,hp0⟩:=S.rw b
   rw [hrow] at hp0
   cases hp0 with
   | @cons _ tv _ ts hw hp =>
     obtain ⟨t,cv,rfl,ht,hk⟩:=hw
     refine ⟨_,rfl,x,a.Store,dx,_,_,rfl,hx,G.cl_Store,G.na_Store_rows,stF_rows,_,rfl,rl,_,_,_,rfl,rfl,SqL.of S.ro,sdI_at b,true,.inl ⟨_,SqL.of hl,rfl⟩,iteF ?_⟩
     refine ⟨_,rfl,x,a.Store,dx,_,_,rfl,hx,G.cl_Store,G.na_Store_rows,stF_rows,_,rfl,rl,_,_,_,rfl,rfl,SqL.of S.ro,sdI_at b,.inl ⟨rfl,_,SqL.of hl⟩,l b,_,0,0,.ref t,rfl,rfl,hl,by decide,by decide,by simp [seqIndex?],rfl,?_⟩
     have tl:t≠l b:=ne_of ht hl (by intro z;cases z)
     have kp:Kp [l b] H (upd H (l b) (.lst (List.eraseIdx (.ref t :: ts) 0))):=λc o n e=>by
       rw [upd_ne λz=>n (List.mem_singleton.mpr z)];exact e
     have kt:∀ c vs,H c=some (.tup vs)->upd H (l b) (.lst (List.eraseIdx (.ref t :: ts) 0)) c=some (.tup vs):=λc vs e=>kp c _ (λz=>by
       rw [List.mem_singleton.mp z,hl] at e;cases e) e
     have hx':=kp x _ (λz=>by rw [List.mem_singleton.mp z,hl] at hx;cases hx) hx
     have me':=S.me.keepS (λo e=>kp _ _ (λz=>by
       obtain ⟨es,e'⟩:=S.me.there
       rw [List.mem_singleton.mp z,hl] at e';cases e') e) kt
     have ro':=kp rl _ (λz=>S.nr b (List.mem_singleton.mp z).symm) S.ro
     have ht':=kt t _ ht
     have rw':∀ c,RowAt (upd H (l b) (.lst (List.eraseIdx (.ref t :: ts) 0))) (l c) (setR r b rest c):=λc=>by
       by_cases z:c=b
       · subst z
         rw [setR_same]
         exact ⟨ts,upd_same,Paired.mapP hp λ_ _ q=>q.keep kt⟩
       · rw [setR_ne z]
         exact (S.rw c).keep (λo e=>kp _ _ (λy=>by
           have y':=List.mem_singleton.mp y
           cases c<;>cases b
           · exact z rfl
           · exact S.nl y'
           · exact S.nl y'.symm
           · exact z rfl) e) kt
     have hk':=hk.keep kt
     refine ⟨_,rfl,t,_,_,_,rfl,rfl,SqT.of ht',rfl,_,rfl,x,a.Store,dx,_,_,rfl,hx',G.cl_Store,G.na_Store_held,stF_held,_,rfl,t,_,_,_,rfl,rfl,SqT.of ht',rfl,hd,M,k,rfl,me',Nat.lt_of_lt_of_le hlen many,hk',λH4 g1 g2=>?_⟩
     generalize upd H (l b) (.lst (List.eraseIdx (.ref t :: ts) 0))=H1 at kp kt hx' me' ro' ht' rw' hk' g1 ⊢
     have hdn:∀ c o,H1 c=some o->(∀ ee:List DictEntry × Nat,o≠DObj hd ee.1 ee.2)->c≠hd:=λc o e n z=>by
       obtain ⟨es,e'⟩:=me'.there
       rw [z,e'] at e;exact n es (Option.some.inj e).symm
     have k4:∀ c o,c≠hd->H1 c=some o->H4 c=some o:=λc o n e=>by rw [g1 c n];exact e
     have kt4:∀ c vs,H1 c=some (.tup vs)->H4 c=some (.tup vs):=λc vs e=>k4 c _ (hdn c _ e λes z=>by cases z) e
     refine q H4 ⟨⟨dx,k4 _ _ (hdn _ _ hx' λes z=>by cases z) hx'⟩,g2,k4 _ _ (hdn _ _ ro' λes z=>by cases z) ro',λc=>(rw' c).keep (λo e=>k4 _ _ (by
       obtain ⟨ts',e',_⟩:=rw' c
       exact hdn _ _ e' λes z=>by cases z) e) kt4,S.nl,S.nr⟩ λc o n e=>?_
     exact k4 c o (λz=>n (by rw [z];simp)) (kp c o (λz=>n (by rw [List.mem_singleton.mp z];simp)) e)
theorem ok_memory (G:Gs K mg a d):FnOk P w K mg base CX0 1 a.Store_memory d.Store_memory ["self","cell"] (sp_memory w a.Store):=by
 refine G.f_Store_memory.ok sc_Store_memory (λvs H Q E h=>?_) (λcdv A outer s H vs Q E hr h=>?_)
 · obtain ⟨x,hd,rl,l,M,r,cv,k,rfl,_⟩:=h
   rfl
 · obtain ⟨x,hd,rl,l,M,r,cv,k,rfl,S,hk,q⟩:=h
   refine ⟨_,(@pss_one _ _ _ (@ps_ret _ _ _ _ (pe_mget2 hr.units (pe_fld (pv 0) rfl) (pv 1) pe_int ⟨rfl,rfl,rfl,rfl⟩))),?_⟩
   obtain ⟨dx,hx⟩:=S.ob
   exact ⟨_,rfl,x,a.Store,dx,_,_,rfl,hx,G.cl_Store,G.na_Store_held,stF_held,hd,rfl,⟨_,S.me⟩,_,rfl,M,k,S.me,hk,q⟩
theorem ok_waits (G:Gs K mg a d):FnOk P w K mg base CX0 1 a.Store_waits d.Store_waits ["self","side"] (sp_waits w a.Store):=by
 refine G.f_Store_waits.ok sc_Store_waits (λvs H Q E h=>?_) (λcdv A outer s H vs Q E hr h=>?_)
 · obtain ⟨x,hd,rl,l,M,r,b,rfl,_⟩:=h
   rfl
 · obtain ⟨x,hd,rl,l,M,r,b,rfl,S,q⟩:=h
   refine ⟨_,(@pss_one _ _ _ (@ps_ret _ _ _ _ (pe_callTy call_list_of (by rfl) G.n_list bt_list (@pa_cons _ _ _ _ _ (@pe_ix _ _ _ _ _ _ _ ix_list (pe_fld (pv 0) rfl) (pv 1) (λ_ _=>rfl)) pa_nil (by rfl))))),?_⟩
   obtain ⟨dx,hx⟩:=S.ob
   obtain ⟨ts,hl,hp⟩:=S.rw b
   exact ⟨_,rfl,x,a.Store,dx,_,_,rfl,hx,G.cl_Store,G.na_Store_rows,stF_rows,_,rfl,rl,_,_,_,rfl,rfl,SqL.of S.ro,sdI_at b,l b,ts,rfl,.inl (SqL.of hl),λp hp'=>q p ts hp' hp⟩
theorem ok_fence (G:Gs K mg a d):FnOk P w K mg base CX0 2 a.Store_fence d.Store_fence ["self","side"] (sp_fence w a.Store):=by
 have c_Store_drain:FnOk P w K mg base CX0 1 _ _ _ _:=ok_drain G
 refine G.f_Store_fence.ok sc_Store_fence (λvs H Q E h=>?_) (λcdv A outer s H vs Q E hr h=>?_)
 · obtain ⟨x,hd,rl,l,M,r,b,rfl,_⟩:=h
   rfl
 · obtain ⟨x,hd,rl,l,M,r,b,rfl,S,hlen,q⟩:=h
   refine ⟨_,(@pss_one _ _ _ (ps_while PassesOwn.never (pt_truth (@pe_ix _ _ _ _ _ _ _ ix_list (pe_fld (pv 0) rfl) (pv 1) (λ_ _=>rfl)) (λ_=>rfl)) (@pss_one _ _ _ (@ps_expr _ _ _ _ (pe_meth (pv 0) G.cl_Store G.mt_Store_drain c_Store_drain (hr.mono (by decide)) G.b_Store_drain .nil pass0 (@pa_cons _ _ _ _ _ (pv 1) pa_nil (by rfl))) (by rfl))))),?_⟩
   refine ⟨λm σ H'=>σ=[some (.ref x),some (.int (sdI b))]/\∃ (M' es:List (PyData × V)),Sto w a.Store H' x hd rl l M' (setR r b es)/\m=es.length/\drainAll M' es=drainAll M (r b)/\M'.length+es.length < 100000/\Kp [l b,hd] H H',
     ⟨_,rfl,M,r b,by rw [show setR r b (r b)=r from funext λc=>by unfold setR;split;(rename_i z;rw [z]);rfl];exact S,rfl,rfl,hlen,Kp.refl _ _⟩,?_⟩
   rintro m σ H' ⟨rfl,M',es,S',rfl,hd',hl',kp⟩
   obtain ⟨dx,hx⟩:=S'.ob
   obtain ⟨ts,hl,hp⟩:=S'.rw b
   rw [setR_same] at hp
   have hn:=pairedLen hp
   refine ⟨_,rfl,x,a.Store,dx,_,_,rfl,hx,G.cl_Store,G.na_Store_rows,stF_rows,_,rfl,rl,_,_,_,rfl,rfl,SqL.of S'.ro,sdI_at b,!ts.isEmpty,.inl ⟨_,SqL.of hl,rfl⟩,?_⟩
   refine ite2 (λht=>?_) (λht=>?_)
   · cases es with
     | nil =>
       cases hp
       cases ht
     | cons p es =>
       refine ⟨_,λσ' H2 z=>z,?_⟩
       refine ⟨_,rfl,x,dx,_,rfl,hx,stF_no (by decide +kernel) (by decide +kernel),_,rfl,x,hd,rl,l,M',_,b,p.1,p.2,es,rfl,S',setR_same,by rw [List.length_cons] at hl';omega,λH2 S2 kp2=>?_⟩
       refine ⟨es.length,by rw [List.length_cons];omega,rfl,putD M' p.1 p.2,es,?_,rfl,hd',by have:=len_putD M' p.1 p.2;rw [List.length_cons] at hl';omega,kp.trans kp2⟩
       rw [show setR (setR r b (p :: es)) b es=setR r b es from funext λc=>by unfold setR;split<;>rfl] at S2
       exact S2
   · cases es with
     | nil =>
       have e:drainAll M' []=M':=rfl
       rw [e] at hd'
       rw [hd'] at S'
       exact q H' S' kp
     | cons p es =>
       cases hp with
       | cons _ _=>exact absurd rfl ht
theorem ok_read (G:Gs K mg a d):FnOk P w K mg base CX0 2 a.Store_read d.Store_read ["self","side","cell"] (sp_read w a.Store):=by
 have c_Store_memory:FnOk P w K mg base CX0 1 _ _ _ _:=ok_memory G
 refine G.f_Store_read.ok sc_Store_read (λvs H Q E h=>?_) (λcdv A outer s H vs Q E hr h=>?_)
 · obtain ⟨x,hd,rl,l,M,r,b,cv,k,rfl,_⟩:=h
   rfl
 · obtain ⟨x,hd,rl,l,M,r,b,cv,k,rfl,S,hk,q⟩:=h
   refine ⟨_,(@pss_cons _ _ _ _ _ (ps_for PassesOwn.never rfl (pi_rev (by rfl) G.n_reversed (@pa_cons _ _ _ _ _ (@pe_ix _ _ _ _ _ _ _ ix_list (pe_fld (pv 0) rfl) (pv 1) (λ_ _=>rfl)) pa_nil (by rfl))) (pg_name (i:=3) sc_Store_read.nd rfl (Or.inl rfl)) (@pss_one _ _ _ (ps_if (pt_cmpR (op_eqD hr.units) (@pe_ix _ _ _ _ _ _ _ ix_tup (pv 3) pe_int (λ_ _=>rfl)) (pv 2) (nomark _)) (@pss_one _ _ _ (@ps_ret _ _ _ _ (@pe_ix _ _ _ _ _ _ _ ix_tup (pv 3) pe_int (λ_ _=>rfl)))) pss_nil)))
     (@pss_one _ _ _ (@ps_ret _ _ _ _ (pe_meth (pv 0) G.cl_Store G.mt_Store_memory c_Store_memory (hr.mono (by decide)) G.b_Store_memory .nil pass0 (@pa_cons _ _ _ _ _ (pv 2) pa_nil (by rfl)))))),?_⟩
   obtain ⟨dx,hx⟩:=S.ob
   obtain ⟨ts,hl,hp⟩:=S.rw b
   have hn:=pairedLen hp
   refine ⟨_,rfl,x,a.Store,dx,_,_,rfl,hx,G.cl_Store,G.na_Store_rows,stF_rows,_,rfl,rl,_,_,_,rfl,rfl,SqL.of S.ro,sdI_at b,l b,ts,rfl,SqL.of hl,?_⟩
   refine for_rev (K:=K) (a:=l b) (xs:=ts) (λi σ H'=>(∃ v,σ=[some (.ref x),some (.int (sdI b)),some cv,v])/\H'=H/\∀ p∈((r b).reverse.take i),PyData.eqv p.1 k=false)
     ⟨⟨_,rfl⟩,rfl,λp hp=>by cases hp⟩ (λ_ _ _ _ z=>by rw [z.2.1];exact SqL.of hl) ?_ ?_
   · rintro i y σ H' hi hy ⟨⟨v,rfl⟩,rfl,hno⟩
     obtain ⟨p,e1,t,tc,rfl,ht,hc⟩:=MX.f2_get hp _ _ hy
     have hrev:(r b).reverse[i]?=some p:=by
       rw [List.getElem?_reverse (by omega)]
       rw [hn];exact e1
     refine ⟨_,rfl,t,_,_,_,rfl,rfl,SqT.of ht,rfl,_,rfl,p.1,k,hc.2.2.1,hk.2.2.1,LayD.key hc.1 hc.2.1,LayD.key hk.1 hk.2.1,_,rfl,?_⟩
     simp only [Bool.false_eq_true,if_false]
     refine ite2 (λhe=>?_) (λhe=>?_)
     · refine ⟨_,rfl,t,_,_,_,rfl,rfl,SqT.of ht,rfl,?_⟩
       have e:readV M (r b) k=p.2:=by
         unfold readV
         have hfind:(r b).reverse.find? (λp=>PyData.eqv p.1 k)=some p:=by
           rw [List.find?_eq_some_iff_getElem]
           refine ⟨he,i,(List.getElem?_eq_some_iff.mp hrev).1,(List.getElem?_eq_some_iff.mp hrev).2,λj hj=>?_⟩
           rw [hno _ (List.mem_of_getElem? (by rw [List.getElem?_take,if_pos hj];exact List.getElem?_eq_getElem _))]
           rfl
         rw [hfind]
       rw [e] at q
       exact q
     · refine ⟨⟨_,rfl⟩,rfl,λp' hp'=>?_⟩
       rw [List.take_succ,hrev] at hp'
       rcases List.mem_append.mp hp' with z | z
       · exact hno p' z
       · rw [show p'=p by simpa using z]
         cases w':PyData.eqv p.1 k with
         | false=>rfl
         | true=>exact absurd w' he
   · rintro σ H' ⟨⟨v,rfl⟩,rfl,hno⟩
     refine ⟨_,rfl,x,dx,_,rfl,hx,stF_no (by decide +kernel) (by decide +kernel),_,rfl,x,hd,rl,l,M,r,cv,k,rfl,S,hk,?_⟩
     have e:readV M (r b) k=(lookD M k).getD (.int 0):=by
       unfold readV
       have hfind:(r b).reverse.find? (λp=>PyData.eqv p.1 k)=none:=by
         rw [List.find?_eq_none]
         intro p hp'
         rw [hno p (by rw [List.take_of_length_le (by rw [List.length_reverse];omega)];exact hp')]
         decide
       rw [hfind]
     rw [e] at q
     exact q
end

def sp_next:Sp:=λvs H Q _=>∃ c s r:Int,vs=[.int c,.int s,.int r]/\0 < s/\s <= 8/\0 < s * r/\Q (.int ((c+1) % (s * r))) H
def sp_place:Sp:=λvs H Q _=>∃ c s:Int,vs=[.int c,.int s]/\0 < s/\Q (.int (c % s)) H
def sp_ahead:Sp:=λvs H Q _=>∃ o b s r:Int,vs=[.int o,.int b,.int s,.int r]/\0 < s/\s <= 8/\0 < s * r/\Q (.int ((o - b) % (s * r))) H
section
variable {P:Program} {w:World} {K:PySem.W.Frag} {mg:Str->Option Value} {base:Heap} {a:Ad} {d:Fd}
theorem ok_next (G:Gs K mg a d):FnOk P w K mg base CX0 1 a.next_counter d.next_counter ["counter","size","rounds"] sp_next:=by
 refine G.f_next_counter.ok sc_next_counter (λvs H Q E h=>?_) (λcdv A outer st H vs Q E hr h=>?_)
 · obtain ⟨c,s,r,rfl,_⟩:=h
   rfl
 · obtain ⟨c,s,r,rfl,h0,h1,h2,k⟩:=h
   refine ⟨_,(@pss_one _ _ _ (@ps_ret _ _ _ _ (@pe_op _ _ _ _ _ _ _ _ op_mod (@pe_op _ _ _ _ _ _ _ _ op_add (pv 0) pe_int) (@pe_op _ _ _ _ _ _ _ _ op_mul (pv 1) (pv 2))))),?_⟩
   exact ⟨_,rfl,_,_,rfl,rfl,_,rfl,_,rfl,_,_,rfl,rfl,cmul_nn (by omega) (by omega),_,_,rfl,rfl,h2,k⟩
theorem ok_place (G:Gs K mg a d):FnOk P w K mg base CX0 1 a.place_of d.place_of ["counter","size"] sp_place:=by
 refine G.f_place_of.ok sc_place_of (λvs H Q E h=>?_) (λcdv A outer st H vs Q E hr h=>?_)
 · obtain ⟨c,s,rfl,_⟩:=h
   rfl
 · obtain ⟨c,s,rfl,h0,k⟩:=h
   refine ⟨_,(@pss_one _ _ _ (@ps_ret _ _ _ _ (@pe_op _ _ _ _ _ _ _ _ op_mod (pv 0) (pv 1)))),?_⟩
   exact ⟨_,rfl,_,rfl,_,_,rfl,rfl,h0,k⟩
theorem ok_ahead (G:Gs K mg a d):FnOk P w K mg base CX0 1 a.ahead_by d.ahead_by ["one","other","size","rounds"] sp_ahead:=by
 refine G.f_ahead_by.ok sc_ahead_by (λvs H Q E h=>?_) (λcdv A outer st H vs Q E hr h=>?_)
 · obtain ⟨o,b,s,r,rfl,_⟩:=h
   rfl
 · obtain ⟨o,b,s,r,rfl,h0,h1,h2,k⟩:=h
   refine ⟨_,(@pss_one _ _ _ (@ps_ret _ _ _ _ (@pe_op _ _ _ _ _ _ _ _ op_mod (@pe_op _ _ _ _ _ _ _ _ op_sub (pv 0) (pv 1)) (@pe_op _ _ _ _ _ _ _ _ op_mul (pv 2) (pv 3))))),?_⟩
   exact ⟨_,rfl,_,rfl,_,_,rfl,rfl,_,rfl,_,rfl,_,_,rfl,rfl,cmul_nn (by omega) (by omega),_,_,rfl,rfl,h2,k⟩
end

def sp_rwith:Sp:=λvs H Q _=>∃ (R:Int) (ft:Addr) (fs:List Str),vs=[.int R,.ref ft]/\H ft=some (.tup (fs.map V.str))/\Q (.int (if fs.contains "round" then 1 else R)) H
def sp_rinit (K:PySem.W.Frag) (CR:Addr):Sp:=λvs H Q _=>∃ (q dx st wa ft:Addr) (b:Bool) (w0 w1 w2:Str) (s R:Int) (fs:List Str),vs=[.ref q,.ref st,.int (sdI b),.ref wa,.int s,.int R,.ref ft]/\H q=some (.ins CR dx [])/\(∀ H,SqT K H wa [.str w0,.str w1,.str w2])/\H ft=some (.tup (fs.map V.str)) /\
 ∀ H',Rn CR H' q st b w0 w1 w2 ⟨s,if fs.contains "round" then 1 else R,fs.contains "counter"⟩->Kp [q] H H'->Q .non H'
def sp_filled (w:World) (CR CS:Addr):Sp:=λvs H Q _=>∃ (q:Addr) (z:SA) (b:Bool) (w0 w1 w2:Str) (p:RP) (M:List (PyData × V)) (r:Bool->List (PyData × V)) (A T:Int),vs=[.ref q]/\Rn CR H q z.x b w0 w1 w2 p/\z.At w CS H M r/\p.Ok/\PyData.strOk w1=true/\PyData.strOk w2=true /\
 readV M (r b) (.str w1)=.int A/\readV M (r b) (.str w2)=.int T/\Q (.int ((A - T) % (p.s * p.R))) H
def sp_full (w:World) (CR CS:Addr):Sp:=λvs H Q _=>∃ (q:Addr) (z:SA) (b:Bool) (w0 w1 w2:Str) (p:RP) (M:List (PyData × V)) (r:Bool->List (PyData × V)) (A T:Int),vs=[.ref q]/\Rn CR H q z.x b w0 w1 w2 p/\z.At w CS H M r/\p.Ok/\PyData.strOk w1=true/\PyData.strOk w2=true /\
 readV M (r b) (.str w1)=.int A/\readV M (r b) (.str w2)=.int T/\Q (.bl (decide ((A - T) % (p.s * p.R)=p.s))) H
def sp_placeat (CR:Addr):Sp:=λvs H Q _=>∃ (q st:Addr) (b:Bool) (w0 w1 w2:Str) (p:RP) (A:Int),vs=[.ref q,.int A]/\Rn CR H q st b w0 w1 w2 p/\p.Ok/\∀ t,H t=none->Q (.ref t) (upd H t (.tup [.str w0,.int (A % p.s)]))
def sp_further (w:World) (CR CS:Addr):Sp:=λvs H Q _=>∃ (q:Addr) (z:SA) (b:Bool) (w0 w1 w2:Str) (p:RP) (M:List (PyData × V)) (r:Bool->List (PyData × V)) (A:Int) (cv:V) (k:PyData),vs=[.ref q,cv,.int A]/\Rn CR H q z.x b w0 w1 w2 p/\z.At w CS H M r/\p.Ok/\(r b).length < 100000/\KeyV H k cv /\
 ∀ H',z.At w CS H' M (setR r b (r b++[(k,.int ((A+1) % (p.s * p.R)))]))->Kp [z.l b] H H'->Q .non H'
def sp_lay (w:World) (CR CS:Addr):Sp:=λvs H Q _=>∃ (q:Addr) (z:SA) (b:Bool) (w0 w1 w2:Str) (p:RP) (M:List (PyData × V)) (r:Bool->List (PyData × V)) (A:Int) (nm wv:V),vs=[.ref q,nm,wv]/\Rn CR H q z.x b w0 w1 w2 p/\z.At w CS H M r/\p.Ok/\PyData.strOk w0=true/\PyData.strOk w1=true/\(r b).length < 99999 /\
 readV M (r b) (.str w1)=.int A/\∀ t H',H t=none->H' t=some (.tup [nm,wv])->z.At w CS H' M (setR r b (r b++layRow p w0 w1 A (.ref t)))->Kp [z.l b] H H'->Q .non H'
def sp_fetch (w:World) (CR CS:Addr):Sp:=λvs H Q _=>∃ (q:Addr) (z:SA) (b:Bool) (w0 w1 w2:Str) (p:RP) (M:List (PyData × V)) (r:Bool->List (PyData × V)) (A T:Int),vs=[.ref q]/\Rn CR H q z.x b w0 w1 w2 p/\z.At w CS H M r/\p.Ok/\PyData.strOk w0=true/\PyData.strOk w1=true/\PyData.strOk w2=true/\(r b).length < 100000 /\
 readV M (r b) (.str w1)=.int A/\readV M (r b) (.str w2)=.int T/\(if (A - T) % (p.s * p.R)=0 then Q .non H else
   (∃ c vs,readV M (r b) (.tuple [.str w0,.int (T % p.s)])=.ref c/\H c=some (.tup vs)/\∀ H',z.At w CS H' M (setR r b (r b++[(.str w2,.int ((T+1) % (p.s * p.R)))]))->Kp [z.l b] H H'->Q (.ref c) H') \/
   ∃ i,readV M (r b) (.tuple [.str w0,.int (T % p.s)])=.int i/\∀ t H',H t=none->H' t=some (.tup [.non,.non])->z.At w CS H' M (setR r b (r b++[(.str w2,.int ((T+1) % (p.s * p.R)))]))->Kp [z.l b] H H'->Q (.ref t) H')
section
variable {P:Program} {w:World} {K:PySem.W.Frag} {mg:Str->Option Value} {base:Heap} {a:Ad} {d:Fd}
theorem ok_rwith (G:Gs K mg a d):FnOk P w K mg base CX0 1 a.rounds_with d.rounds_with ["rounds","faults"] sp_rwith:=by
 refine G.f_rounds_with.ok sc_rounds_with (λvs H Q E h=>?_) (λcdv A outer s H vs Q E hr h=>?_)
 · obtain ⟨R,ft,fs,rfl,_⟩:=h
   rfl
 · obtain ⟨R,ft,fs,rfl,hf,k⟩:=h
   refine ⟨_,(@pss_one _ _ _ (@ps_ret _ _ _ _ (pe_ifExp (pt_cmpR op_in_seq pe_str (pv 1) (by with_unfolding_all rfl)) pe_int (pv 0)))),?_⟩
   refine ⟨_,rfl,ft,_,rfl,.inr (SqT.of hf),rfl,strs_flat fs,_,rfl,?_⟩
   simp only [Bool.false_eq_true,if_false]
   rw [inV_str]
   by_cases hb:fs.contains "round"=true
   · rw [if_pos hb] at k ⊢
     exact k
   · rw [if_neg hb] at k ⊢
     exact ⟨_,rfl,k⟩
theorem ok_rinit (G:Gs K mg a d):FnOk P w K mg base CX0 2 a.Ring__init d.Ring__init ["self","store","side","words","size","rounds","faults"] (sp_rinit K a.Ring):=by
 have c_rounds_with:FnOk P w K mg base CX0 1 _ _ _ _:=ok_rwith G
 refine G.f_Ring__init.ok sc_Ring__init (λvs H Q E h=>?_) (λcdv A outer s H vs Q E hr h=>?_)
 · obtain ⟨q,dx,st,wa,ft,b,w0,w1,w2,s,R,fs,rfl,_⟩:=h
   rfl
 · obtain ⟨q,dx,st,wa,ft,b,w0,w1,w2,s,R,fs,rfl,hx,hw,hf,k⟩:=h
   refine ⟨_,(@pss_cons _ _ _ _ _ (ps_fld (pv 0) (pv 1) rfl)
     (@pss_cons _ _ _ _ _ (ps_fld (pv 0) (pv 2) rfl)
     (@pss_cons _ _ _ _ _ (ps_fld (pv 0) (@pe_ix _ _ _ _ _ _ _ ix_tup (pv 3) pe_int (λ_ _=>rfl)) rfl)
     (@pss_cons _ _ _ _ _ (ps_fld (pv 0) (@pe_ix _ _ _ _ _ _ _ ix_tup (pv 3) pe_int (λ_ _=>rfl)) rfl)
     (@pss_cons _ _ _ _ _ (ps_fld (pv 0) (@pe_ix _ _ _ _ _ _ _ ix_tup (pv 3) pe_int (λ_ _=>rfl)) rfl)
     (@pss_cons _ _ _ _ _ (ps_fld (pv 0) (pv 4) rfl)
     (@pss_cons _ _ _ _ _ (ps_fld (pv 0) (pe_call c_rounds_with (hr.mono (by decide)) (by rfl) G.m_rounds_with G.f_rounds_with.kp G.b_rounds_with .nil pass0 (@pa_cons _ _ _ _ _ (pv 5) (@pa_cons _ _ _ _ _ (pv 6) pa_nil (by rfl)) (by rfl))) rfl)
     (@pss_one _ _ _ (ps_fld (pv 0) (pe_cmpR op_in_seq pe_str (pv 6) (by with_unfolding_all rfl)) rfl))))))))),?_⟩
   have nf:ft≠q:=ne_of hf hx (by intro z;cases z)
   have ft':∀ o,upd H q o ft=some (.tup (fs.map V.str)):=λo=>by rw [upd_ne nf];exact hf
   refine ⟨_,rfl,_,rfl,q,a.Ring,dx,[],rfl,hx,G.cl_Ring,G.na_Ring_shelf,by decide,?_⟩
   refine ⟨_,rfl,_,rfl,q,a.Ring,dx,_,rfl,upd_same,G.cl_Ring,G.na_Ring_side,by show 1 < 1000;decide,?_⟩
   rw [upd_upd]
   refine ⟨_,rfl,wa,_,_,_,rfl,rfl,hw _,rfl,_,rfl,q,a.Ring,dx,_,rfl,upd_same,G.cl_Ring,G.na_Ring_word,by show 2 < 1000;decide,?_⟩
   rw [upd_upd]
   refine ⟨_,rfl,wa,_,_,_,rfl,rfl,hw _,rfl,_,rfl,q,a.Ring,dx,_,rfl,upd_same,G.cl_Ring,G.na_Ring_laid,by show 3 < 1000;decide,?_⟩
   rw [upd_upd]
   refine ⟨_,rfl,wa,_,_,_,rfl,rfl,hw _,rfl,_,rfl,q,a.Ring,dx,_,rfl,upd_same,G.cl_Ring,G.na_Ring_fetched,by show 4 < 1000;decide,?_⟩
   rw [upd_upd]
   refine ⟨_,rfl,_,rfl,q,a.Ring,dx,_,rfl,upd_same,G.cl_Ring,G.na_Ring_size,by show 5 < 1000;decide,?_⟩
   rw [upd_upd]
   refine ⟨_,rfl,_,rfl,R,ft,fs,rfl,ft' _,_,rfl,q,a.Ring,dx,_,rfl,upd_same,G.cl_Ring,G.na_Ring_rounds,by show 6 < 1000;decide,?_⟩
   rw [upd_upd]
   refine ⟨_,rfl,ft,_,rfl,.inr (SqT.of (ft' _)),rfl,strs_flat fs,_,rfl,q,a.Ring,dx,_,rfl,upd_same,G.cl_Ring,G.na_Ring_counter_first,by show 7 < 1000;decide,?_⟩
   rw [upd_upd]
   simp only [Bool.false_eq_true,if_false]
   rw [inV_str]
   refine k _ ⟨dx,upd_same⟩ λc o nc ec=>?_
   rw [upd_ne λz=>nc (List.mem_singleton.mpr z)]
   exact ec
theorem ok_filled (G:Gs K mg a d):FnOk P w K mg base CX0 3 a.Ring_filled d.Ring_filled ["self"] (sp_filled w a.Ring a.Store):=by
 have c_Store_read:FnOk P w K mg base CX0 2 _ _ _ _:=ok_read G
 have c_ahead_by:FnOk P w K mg base CX0 1 _ _ _ _:=ok_ahead G
 refine G.f_Ring_filled.ok sc_Ring_filled (λvs H Q E h=>?_) (λcdv A' outer s H vs Q E hr h=>?_)
 · obtain ⟨q,z,b,w0,w1,w2,p,M,r,A,T,rfl,_⟩:=h
   rfl
 · obtain ⟨q,z,b,w0,w1,w2,p,M,r,A,T,rfl,⟨dx,hx⟩,S,hp,o1,o2,hA,hT,k⟩:=h
   refine ⟨_,(@pss_cons _ _ _ _ _ (@ps_set _ _ 1 _ _ _ _ sc_Ring_filled.nd rfl (Or.inl rfl) (pe_meth (pe_fld (pv 0) rfl) G.cl_Store G.mt_Store_read c_Store_read (hr.mono (by decide)) G.b_Store_read .nil pass0 (@pa_cons _ _ _ _ _ (pe_fld (pv 0) rfl) (@pa_cons _ _ _ _ _ (pe_fld (pv 0) rfl) pa_nil (by rfl)) (by rfl))) (by rfl) (by first | exact .inl rfl | exact .inr rfl | assumption))
     (@pss_cons _ _ _ _ _ (@ps_set _ _ 2 _ _ _ _ sc_Ring_filled.nd rfl (Or.inl rfl) (pe_meth (pe_fld (pv 0) rfl) G.cl_Store G.mt_Store_read c_Store_read (hr.mono (by decide)) G.b_Store_read .nil pass0 (@pa_cons _ _ _ _ _ (pe_fld (pv 0) rfl) (@pa_cons _ _ _ _ _ (pe_fld (pv 0) rfl) pa_nil (by rfl)) (by rfl))) (by rfl) (by first | exact .inl rfl | exact .inr rfl | assumption))
     (@pss_one _ _ _ (@ps_ret _ _ _ _ (pe_call c_ahead_by (hr.mono (by decide)) (by rfl) G.m_ahead_by G.f_ahead_by.kp G.b_ahead_by .nil pass0 (@pa_cons _ _ _ _ _ (pv 1) (@pa_cons _ _ _ _ _ (pv 2) (@pa_cons _ _ _ _ _ (pe_fld (pv 0) rfl) (@pa_cons _ _ _ _ _ (pe_fld (pv 0) rfl) pa_nil (by rfl)) (by rfl)) (by rfl)) (by rfl))))))),?_⟩
   obtain ⟨dxs,hxs⟩:=S.ob
   refine ⟨_,rfl,fld hx G.cl_Ring G.na_Ring_shelf rF_shelf ⟨z.x,dxs,_,rfl,hxs,stF_no (by decide +kernel) (by decide +kernel),_,rfl,fld hx G.cl_Ring G.na_Ring_side rF_side ⟨_,rfl,fld hx G.cl_Ring G.na_Ring_laid rF_laid ⟨z.x,z.hd,z.rl,z.l,M,r,b,.str w1,.str w1,rfl,S,kS o1,?_⟩⟩⟩⟩
   rw [hA]
   refine ⟨_,rfl,fld hx G.cl_Ring G.na_Ring_shelf rF_shelf ⟨z.x,dxs,_,rfl,hxs,stF_no (by decide +kernel) (by decide +kernel),_,rfl,fld hx G.cl_Ring G.na_Ring_side rF_side ⟨_,rfl,fld hx G.cl_Ring G.na_Ring_fetched rF_fetched ⟨z.x,z.hd,z.rl,z.l,M,r,b,.str w2,.str w2,rfl,S,kS o2,?_⟩⟩⟩⟩
   rw [hT]
   exact ⟨_,rfl,_,rfl,_,rfl,fld hx G.cl_Ring G.na_Ring_size rF_size ⟨_,rfl,fld hx G.cl_Ring G.na_Ring_rounds rF_rounds ⟨A,T,p.s,p.R,rfl,hp.s0,hp.s8,hp.sR,k⟩⟩⟩
theorem ok_full (G:Gs K mg a d):FnOk P w K mg base CX0 4 a.Ring_is_full d.Ring_is_full ["self"] (sp_full w a.Ring a.Store):=by
 have c_Ring_filled:FnOk P w K mg base CX0 3 _ _ _ _:=ok_filled G
 refine G.f_Ring_is_full.ok sc_Ring_is_full (λvs H Q E h=>?_) (λcdv A' outer s H vs Q E hr h=>?_)
 · obtain ⟨q,z,b,w0,w1,w2,p,M,r,A,T,rfl,_⟩:=h
   rfl
 · obtain ⟨q,z,b,w0,w1,w2,p,M,r,A,T,rfl,⟨dx,hx⟩,S,hp,o1,o2,hA,hT,k⟩:=h
   refine ⟨_,(@pss_one _ _ _ (@ps_ret _ _ _ _ (pe_cmpR op_eq (pe_meth0 (pv 0) G.cl_Ring G.mt_Ring_filled c_Ring_filled (hr.mono (by decide)) G.b_Ring_filled .nil pass0) (pe_fld (pv 0) rfl) (nomark _)))),?_⟩
   refine ⟨_,rfl,q,dx,_,rfl,hx,rF_filled,q,z,b,w0,w1,w2,p,M,r,A,T,rfl,⟨dx,hx⟩,S,hp,o1,o2,hA,hT,_,rfl,fld hx G.cl_Ring G.na_Ring_size rF_size ⟨rfl,?_⟩⟩
   have e:decide (V.int ((A - T) % (p.s * p.R))=V.int p.s)=decide ((A - T) % (p.s * p.R)=p.s):=by
     rw [decide_eq_decide];exact ⟨vint_inj,λz=>by rw [z]⟩
   rw [e]
   exact k
theorem ok_placeat (G:Gs K mg a d):FnOk P w K mg base CX0 2 a.Ring_place_at d.Ring_place_at ["self","counter"] (sp_placeat a.Ring):=by
 have c_place_of:FnOk P w K mg base CX0 1 _ _ _ _:=ok_place G
 refine G.f_Ring_place_at.ok sc_Ring_place_at (λvs H Q E h=>?_) (λcdv A' outer s H vs Q E hr h=>?_)
 · obtain ⟨q,st,b,w0,w1,w2,p,A,rfl,_⟩:=h
   rfl
 · obtain ⟨q,st,b,w0,w1,w2,p,A,rfl,⟨dx,hx⟩,hp,k⟩:=h
   refine ⟨_,(@pss_one _ _ _ (@ps_ret _ _ _ _ (@pe_tup _ _ _ _ _ (@pa_cons _ _ _ _ _ (pe_fld (pv 0) rfl) (@pa_cons _ _ _ _ _ (pe_call c_place_of (hr.mono (by decide)) (by rfl) G.m_place_of G.f_place_of.kp G.b_place_of .nil pass0 (@pa_cons _ _ _ _ _ (pv 1) (@pa_cons _ _ _ _ _ (pe_fld (pv 0) rfl) pa_nil (by rfl)) (by rfl))) pa_nil (by rfl)) (by rfl))))),?_⟩
   exact ⟨_,rfl,fld hx G.cl_Ring G.na_Ring_word rF_word ⟨_,rfl,_,rfl,fld hx G.cl_Ring G.na_Ring_size rF_size ⟨A,p.s,rfl,hp.s0,l2,λt ht=>k t ht⟩⟩⟩
theorem ok_further (G:Gs K mg a d):FnOk P w K mg base CX0 2 a.Ring_write_further d.Ring_write_further ["self","cell","counter"] (sp_further w a.Ring a.Store):=by
 have c_Store_write:FnOk P w K mg base CX0 1 _ _ _ _:=ok_write G
 have c_next_counter:FnOk P w K mg base CX0 1 _ _ _ _:=ok_next G
 refine G.f_Ring_write_further.ok sc_Ring_write_further (λvs H Q E h=>?_) (λcdv A' outer s H vs Q E hr h=>?_)
 · obtain ⟨q,z,b,w0,w1,w2,p,M,r,A,cv,ke,rfl,_⟩:=h
   rfl
 · obtain ⟨q,z,b,w0,w1,w2,p,M,r,A,cv,ke,rfl,⟨dx,hx⟩,S,hp,hl,hk,k⟩:=h
   refine ⟨_,(@pss_one _ _ _ (@ps_expr _ _ _ _ (pe_meth (pe_fld (pv 0) rfl) G.cl_Store G.mt_Store_write c_Store_write (hr.mono (by decide)) G.b_Store_write .nil pass0 (@pa_cons _ _ _ _ _ (pe_fld (pv 0) rfl) (@pa_cons _ _ _ _ _ (pv 1) (@pa_cons _ _ _ _ _ (pe_call c_next_counter (hr.mono (by decide)) (by rfl) G.m_next_counter G.f_next_counter.kp G.b_next_counter .nil pass0 (@pa_cons _ _ _ _ _ (pv 2) (@pa_cons _ _ _ _ _ (pe_fld (pv 0) rfl) (@pa_cons _ _ _ _ _ (pe_fld (pv 0) rfl) pa_nil (by rfl)) (by rfl)) (by rfl))) pa_nil (by rfl)) (by rfl)) (by rfl))) (by rfl))),?_⟩
   obtain ⟨dxs,hxs⟩:=S.ob
   exact ⟨_,rfl,fld hx G.cl_Ring G.na_Ring_shelf rF_shelf ⟨z.x,dxs,_,rfl,hxs,stF_no (by decide +kernel) (by decide +kernel),_,rfl,fld hx G.cl_Ring G.na_Ring_side rF_side ⟨_,rfl,_,rfl,_,rfl,fld hx G.cl_Ring G.na_Ring_size rF_size ⟨_,rfl,fld hx G.cl_Ring G.na_Ring_rounds rF_rounds
     ⟨A,p.s,p.R,rfl,hp.s0,hp.s8,hp.sR,z.x,z.hd,z.rl,z.l,M,r,b,cv,_,ke,rfl,S,hl,hk,λH' S' kp'=>k H' S' kp'⟩⟩⟩⟩⟩
theorem ok_lay (G:Gs K mg a d):FnOk P w K mg base CX0 4 a.Ring_lay d.Ring_lay ["self","name","worth"] (sp_lay w a.Ring a.Store):=by
 have c_Store_read:FnOk P w K mg base CX0 2 _ _ _ _:=ok_read G
 have c_Store_write:FnOk P w K mg base CX0 1 _ _ _ _:=ok_write G
 have c_Ring_write_further:FnOk P w K mg base CX0 2 _ _ _ _:=ok_further G
 have c_Ring_place_at:FnOk P w K mg base CX0 2 _ _ _ _:=ok_placeat G
 refine G.f_Ring_lay.ok sc_Ring_lay (λvs H Q E h=>?_) (λcdv A' outer s H vs Q E hr h=>?_)
 · obtain ⟨q,z,b,w0,w1,w2,p,M,r,A,nm,wv,rfl,_⟩:=h
   rfl
 · obtain ⟨q,z,b,w0,w1,w2,p,M,r,A,nm,wv,rfl,⟨dx,hx⟩,S,hp,o0,o1,hl,hA,k⟩:=h
   refine ⟨_,(@pss_cons _ _ _ _ _ (@ps_set _ _ 3 _ _ _ _ sc_Ring_lay.nd rfl (Or.inl rfl) (pe_meth (pe_fld (pv 0) rfl) G.cl_Store G.mt_Store_read c_Store_read (hr.mono (by decide)) G.b_Store_read .nil pass0 (@pa_cons _ _ _ _ _ (pe_fld (pv 0) rfl) (@pa_cons _ _ _ _ _ (pe_fld (pv 0) rfl) pa_nil (by rfl)) (by rfl))) (by rfl) (by first | exact .inl rfl | exact .inr rfl | assumption))
     (@pss_cons _ _ _ _ _ (ps_if (pt_val (pe_fld (pv 0) rfl)) (@pss_one _ _ _ (@ps_expr _ _ _ _ (pe_meth (pv 0) G.cl_Ring G.mt_Ring_write_further c_Ring_write_further (hr.mono (by decide)) G.b_Ring_write_further .nil pass0 (@pa_cons _ _ _ _ _ (pe_fld (pv 0) rfl) (@pa_cons _ _ _ _ _ (pv 3) pa_nil (by rfl)) (by rfl))) (by rfl))) pss_nil)
     (@pss_cons _ _ _ _ _ (@ps_expr _ _ _ _ (pe_meth (pe_fld (pv 0) rfl) G.cl_Store G.mt_Store_write c_Store_write (hr.mono (by decide)) G.b_Store_write .nil pass0 (@pa_cons _ _ _ _ _ (pe_fld (pv 0) rfl) (@pa_cons _ _ _ _ _ (pe_meth (pv 0) G.cl_Ring G.mt_Ring_place_at c_Ring_place_at (hr.mono (by decide)) G.b_Ring_place_at .nil pass0 (@pa_cons _ _ _ _ _ (pv 3) pa_nil (by rfl))) (@pa_cons _ _ _ _ _ (@pe_tup _ _ _ _ _ (@pa_cons _ _ _ _ _ (pv 1) (@pa_cons _ _ _ _ _ (pv 2) pa_nil (by rfl)) (by rfl))) pa_nil (by rfl)) (by rfl)) (by rfl))) (by rfl))
     (@pss_one _ _ _ (ps_if (pt_not (pt_val (pe_fld (pv 0) rfl))) (@pss_one _ _ _ (@ps_expr _ _ _ _ (pe_meth (pv 0) G.cl_Ring G.mt_Ring_write_further c_Ring_write_further (hr.mono (by decide)) G.b_Ring_write_further .nil pass0 (@pa_cons _ _ _ _ _ (pe_fld (pv 0) rfl) (@pa_cons _ _ _ _ _ (pv 3) pa_nil (by rfl)) (by rfl))) (by rfl))) pss_nil))))),?_⟩
   obtain ⟨dxs,hxs⟩:=S.ob
   refine ⟨_,rfl,fld hx G.cl_Ring G.na_Ring_shelf rF_shelf ⟨z.x,dxs,_,rfl,hxs,stF_no (by decide +kernel) (by decide +kernel),_,rfl,fld hx G.cl_Ring G.na_Ring_side rF_side ⟨_,rfl,fld hx G.cl_Ring G.na_Ring_laid rF_laid ⟨z.x,z.hd,z.rl,z.l,M,r,b,.str w1,.str w1,rfl,S,kS o1,?_⟩⟩⟩⟩
   rw [hA]
   refine ⟨_,rfl,fld hx G.cl_Ring G.na_Ring_counter_first rF_first ⟨_,rfl,?_⟩⟩
   cases he:p.e with
   | true =>
     refine iteT ?_
     refine ⟨_,rfl,q,dx,_,rfl,hx,rF_further,_,rfl,fld hx G.cl_Ring G.na_Ring_laid rF_laid ⟨_,rfl,q,z,b,w0,w1,w2,p,M,r,A,.str w1,.str w1,rfl,⟨dx,hx⟩,S,hp,by omega,kS o1,λH1 S1 kp1=>?_⟩⟩
     have hx1:=kp1 _ _ (S.noI hx) hx
     obtain ⟨dx1,hs1⟩:=S1.ob
     refine ⟨_,rfl,fld hx1 G.cl_Ring G.na_Ring_shelf rF_shelf ⟨z.x,dx1,_,rfl,hs1,stF_no (by decide +kernel) (by decide +kernel),_,rfl,fld hx1 G.cl_Ring G.na_Ring_side rF_side ⟨_,rfl,q,dx,_,rfl,hx1,rF_place,_,rfl,q,z.x,b,w0,w1,w2,p,A,rfl,⟨dx,hx1⟩,hp,λt1 ht1=>⟨_,rfl,_,rfl,l2,λt2 ht2=>?_⟩⟩⟩⟩
     have e1:=same_new (o:=.tup [V.str w0,V.int (A % p.s)]) ht1
     have e2:=same_new (o:=.tup [nm,wv]) ht2
     have e12:=e1.trans e2
     have S2:=S1.same e12
     have v1:=e2 _ _ (upd_same (H:=H1) (a:=t1) (o:=.tup [V.str w0,V.int (A % p.s)]))
     have v2:=upd_same (H:=upd H1 t1 (.tup [V.str w0,V.int (A % p.s)])) (a:=t2) (o:=.tup [nm,wv])
     have n2:H t2=none:=none_kp kp1 (none_back e1 ht2) λx hx=>by
       obtain ⟨ts,e,_⟩:=S1.rw b
       rw [List.mem_singleton.mp hx,e];intro z;cases z
     have hx2:=e12 _ _ hx1
     generalize upd (upd H1 t1 (.tup [V.str w0,V.int (A % p.s)])) t2 (.tup [nm,wv])=H2 at e2 e12 S2 v1 v2 hx2 ⊢
     refine ⟨z.x,z.hd,z.rl,z.l,M,_,b,.ref t1,.ref t2,.tuple [.str w0,.int (A % p.s)],rfl,S2,by rw [setR_same,List.length_append];show _+1 < _;omega,kT o0 v1,λH3 S3 kp3=>?_⟩
     have hx3:=kp3 _ _ (S2.noI hx2) hx2
     refine ⟨_,rfl,fld hx3 G.cl_Ring G.na_Ring_counter_first rF_first ⟨_,rfl,?_⟩⟩
     rw [he]
     refine iteF ?_
     refine k t2 H3 n2 (kp3 _ _ (S2.noT v2) v2) ?_ λc o n e=>kp3 c o n (e12 _ _ (kp1 c o n e))
     rw [setR_same,setR_twice,List.append_assoc] at S3
     unfold layRow
     rw [he]
     exact S3
   | false =>
     refine iteF ?_
     refine ⟨_,rfl,fld hx G.cl_Ring G.na_Ring_shelf rF_shelf ⟨z.x,dxs,_,rfl,hxs,stF_no (by decide +kernel) (by decide +kernel),_,rfl,fld hx G.cl_Ring G.na_Ring_side rF_side ⟨_,rfl,q,dx,_,rfl,hx,rF_place,_,rfl,q,z.x,b,w0,w1,w2,p,A,rfl,⟨dx,hx⟩,hp,λt1 ht1=>⟨_,rfl,_,rfl,l2,λt2 ht2=>?_⟩⟩⟩⟩
     have e1:=same_new (o:=.tup [V.str w0,V.int (A % p.s)]) ht1
     have e2:=same_new (o:=.tup [nm,wv]) ht2
     have e12:=e1.trans e2
     have S2:=S.same e12
     have v1:=e2 _ _ (upd_same (H:=H) (a:=t1) (o:=.tup [V.str w0,V.int (A % p.s)]))
     have v2:=upd_same (H:=upd H t1 (.tup [V.str w0,V.int (A % p.s)])) (a:=t2) (o:=.tup [nm,wv])
     have n2:H t2=none:=none_back e1 ht2
     have hx2:=e12 _ _ hx
     generalize upd (upd H t1 (.tup [V.str w0,V.int (A % p.s)])) t2 (.tup [nm,wv])=H2 at e2 e12 S2 v1 v2 hx2 ⊢
     refine ⟨z.x,z.hd,z.rl,z.l,M,r,b,.ref t1,.ref t2,.tuple [.str w0,.int (A % p.s)],rfl,S2,by omega,kT o0 v1,λH3 S3 kp3=>?_⟩
     have hx3:=kp3 _ _ (S2.noI hx2) hx2
     refine ⟨_,rfl,fld hx3 G.cl_Ring G.na_Ring_counter_first rF_first ⟨_,rfl,?_⟩⟩
     rw [he]
     refine iteT ?_
     refine ⟨_,rfl,q,dx,_,rfl,hx3,rF_further,_,rfl,fld hx3 G.cl_Ring G.na_Ring_laid rF_laid ⟨_,rfl,q,z,b,w0,w1,w2,p,M,_,A,.str w1,.str w1,rfl,⟨dx,hx3⟩,S3,hp,by rw [setR_same,List.length_append];show _+1 < _;omega,kS o1,λH4 S4 kp4=>?_⟩⟩
     have v3:=kp3 _ _ (S2.noT v2) v2
     refine k t2 H4 n2 (kp4 _ _ (S3.noT v3) v3) ?_ λc o n e=>kp4 c o n (kp3 c o n (e12 _ _ e))
     rw [setR_same,setR_twice,List.append_assoc] at S4
     unfold layRow
     rw [he]
     exact S4
theorem ok_fetch (G:Gs K mg a d):FnOk P w K mg base CX0 5 a.Ring_fetch d.Ring_fetch ["self"] (sp_fetch w a.Ring a.Store):=by
 have c_Store_read:FnOk P w K mg base CX0 2 _ _ _ _:=ok_read G
 have c_Ring_filled:FnOk P w K mg base CX0 3 _ _ _ _:=ok_filled G
 have c_Ring_write_further:FnOk P w K mg base CX0 2 _ _ _ _:=ok_further G
 have c_Ring_place_at:FnOk P w K mg base CX0 2 _ _ _ _:=ok_placeat G
 refine G.f_Ring_fetch.ok sc_Ring_fetch (λvs H Q E h=>?_) (λcdv A' outer s H vs Q E hr h=>?_)
 · obtain ⟨q,z,b,w0,w1,w2,p,M,r,A,T,rfl,_⟩:=h
   rfl
 · obtain ⟨q,z,b,w0,w1,w2,p,M,r,A,T,rfl,⟨dx,hx⟩,S,hp,o0,o1,o2,hl,hA,hT,k⟩:=h
   refine ⟨_,(@pss_cons _ _ _ _ _ (ps_if (pt_cmpR op_eq (pe_meth0 (pv 0) G.cl_Ring G.mt_Ring_filled c_Ring_filled (hr.mono (by decide)) G.b_Ring_filled .nil pass0) pe_int (nomark _)) (@pss_one _ _ _ (@ps_ret _ _ _ _ pe_non)) pss_nil)
     (@pss_cons _ _ _ _ _ (@ps_set _ _ 1 _ _ _ _ sc_Ring_fetch.nd rfl (Or.inl rfl) (pe_meth (pe_fld (pv 0) rfl) G.cl_Store G.mt_Store_read c_Store_read (hr.mono (by decide)) G.b_Store_read .nil pass0 (@pa_cons _ _ _ _ _ (pe_fld (pv 0) rfl) (@pa_cons _ _ _ _ _ (pe_fld (pv 0) rfl) pa_nil (by rfl)) (by rfl))) (by rfl) (by first | exact .inl rfl | exact .inr rfl | assumption))
     (@pss_cons _ _ _ _ _ (@ps_set _ _ 2 _ _ _ _ sc_Ring_fetch.nd rfl (Or.inl rfl) (pe_meth (pe_fld (pv 0) rfl) G.cl_Store G.mt_Store_read c_Store_read (hr.mono (by decide)) G.b_Store_read .nil pass0 (@pa_cons _ _ _ _ _ (pe_fld (pv 0) rfl) (@pa_cons _ _ _ _ _ (pe_meth (pv 0) G.cl_Ring G.mt_Ring_place_at c_Ring_place_at (hr.mono (by decide)) G.b_Ring_place_at .nil pass0 (@pa_cons _ _ _ _ _ (pv 1) pa_nil (by rfl))) pa_nil (by rfl)) (by rfl))) (by rfl) (by first | exact .inl rfl | exact .inr rfl | assumption))
     (@pss_cons _ _ _ _ _ (@ps_expr _ _ _ _ (pe_meth (pv 0) G.cl_Ring G.mt_Ring_write_further c_Ring_write_further (hr.mono (by decide)) G.b_Ring_write_further .nil pass0 (@pa_cons _ _ _ _ _ (pe_fld (pv 0) rfl) (@pa_cons _ _ _ _ _ (pv 1) pa_nil (by rfl)) (by rfl))) (by rfl))
     (@pss_one _ _ _ (@ps_ret _ _ _ _ (pe_ifExp (pt_val (pe_callB call_isinst (by rfl) G.n_isinstance bt_isinstance (@pa_cons _ _ _ _ _ (pv 2) (@pa_cons _ _ _ _ _ (pe_bltn (v:=.ty "tuple") (by rfl) G.n_tuple bt_tuple rfl) pa_nil (by rfl)) (by rfl)))) (pv 2) (@pe_tup _ _ _ _ _ (@pa_cons _ _ _ _ _ pe_non (@pa_cons _ _ _ _ _ pe_non pa_nil (by rfl)) (by rfl)))))))))),?_⟩
   obtain ⟨dxs,hxs⟩:=S.ob
   refine ⟨_,rfl,q,dx,_,rfl,hx,rF_filled,q,z,b,w0,w1,w2,p,M,r,A,T,rfl,⟨dx,hx⟩,S,hp,o1,o2,hA,hT,rfl,_,rfl,?_⟩
   by_cases h0:(A - T) % (p.s * p.R)=0
   · rw [if_pos h0] at k
     rw [h0]
     exact iteDT rfl k
   rw [if_neg h0] at k
   refine iteDF (λz=>h0 (vint_inj z)) ?_
   refine ⟨_,rfl,fld hx G.cl_Ring G.na_Ring_shelf rF_shelf ⟨z.x,dxs,_,rfl,hxs,stF_no (by decide +kernel) (by decide +kernel),_,rfl,fld hx G.cl_Ring G.na_Ring_side rF_side ⟨_,rfl,fld hx G.cl_Ring G.na_Ring_fetched rF_fetched ⟨z.x,z.hd,z.rl,z.l,M,r,b,.str w2,.str w2,rfl,S,kS o2,?_⟩⟩⟩⟩
   rw [hT]
   refine ⟨_,rfl,fld hx G.cl_Ring G.na_Ring_shelf rF_shelf ⟨z.x,dxs,_,rfl,hxs,stF_no (by decide +kernel) (by decide +kernel),_,rfl,fld hx G.cl_Ring G.na_Ring_side rF_side ⟨_,rfl,q,dx,_,rfl,hx,rF_place,_,rfl,q,z.x,b,w0,w1,w2,p,T,rfl,⟨dx,hx⟩,hp,λt1 ht1=>?_⟩⟩⟩
   have e1:=same_new (o:=.tup [V.str w0,V.int (T % p.s)]) ht1
   have S1:=S.same e1
   have v1:=upd_same (H:=H) (a:=t1) (o:=.tup [V.str w0,V.int (T % p.s)])
   have hx1:=e1 _ _ hx
   generalize upd H t1 (.tup [V.str w0,V.int (T % p.s)])=H1 at e1 S1 v1 hx1 ⊢
   refine ⟨z.x,z.hd,z.rl,z.l,M,r,b,.ref t1,.tuple [.str w0,.int (T % p.s)],rfl,S1,kT o0 v1,?_⟩
   refine ⟨_,rfl,q,dx,_,rfl,hx1,rF_further,_,rfl,fld hx1 G.cl_Ring G.na_Ring_fetched rF_fetched ⟨_,rfl,q,z,b,w0,w1,w2,p,M,r,T,.str w2,.str w2,rfl,⟨dx,hx1⟩,S1,hp,hl,kS o2,λH2 S2 kp2=>?_⟩⟩
   rcases k with ⟨c,vs,e,hc,k⟩ | ⟨i,e,k⟩
   · rw [e]
     have hc2:=kp2 _ _ (S1.noT (e1 _ _ hc)) (e1 _ _ hc)
     exact ⟨_,rfl,_,_,_,true,rfl,TyOf.tup hc2,kx_tt,_,rfl,iteT ⟨_,rfl,k H2 S2 λc o n q=>kp2 c o n (e1 _ _ q)⟩⟩
   · rw [e]
     refine ⟨_,rfl,_,_,_,false,rfl,TyOf.int i,kx_it,_,rfl,iteF ⟨l2,λt ht=>?_⟩⟩
     have e3:=same_new (o:=.tup [V.non,V.non]) ht
     have n3:H t=none:=none_back e1 (none_kp kp2 ht λx hx=>by
       obtain ⟨ts,e,_⟩:=S2.rw b
       rw [List.mem_singleton.mp hx,e];intro z;cases z)
     exact k t _ n3 upd_same (S2.same e3) λc o n q=>e3 _ _ (kp2 c o n (e1 _ _ q))
end

def sp_hinit (CH CR:Addr):Sp:=λvs H Q _=>∃ (h dx st ft:Addr) (s R n:Int) (fs:List Str),vs=[.ref h,.ref st,.int s,.int R,.int n,.ref ft]/\H h=some (.ins CH dx [])/\H ft=some (.tup (fs.map V.str)) /\
 ∀ (z:HA) (H':Hp),z.h=h->H z.ra=none->H z.rb=none->H z.gd=none->Hn CH CR H' z st ⟨s,if fs.contains "round" then 1 else R,fs.contains "counter"⟩ n []->Kp [h] H H'->Q .non H'
def sp_least (CH CR:Addr):Sp:=λvs H Q _=>∃ (z:HA) (st:Addr) (p:RP) (n:Nat) (aw:List Int),vs=[.ref z.h]/\Hn CH CR H z st p n aw/\n <= 9/\Q (match least n aw with | some k=>.int k | none=>.non) H
def sp_check (w:World) (CH CR CS F N:Addr):Sp:=λvs H Q E=>∃ (z:HA) (sa:SA) (p:RP) (n:Nat) (aw:List Int) (M:List (PyData × V)) (r:Bool->List (PyData × V)) (A T:Int),vs=[.ref z.h]/\Hn CH CR H z sa.x p n aw/\sa.At w CS H M r/\p.Ok/\n <= 9 /\
 readV M (r false) (.str "asked")=.int A/\readV M (r false) (.str "taken")=.int T/\if (A - T) % (p.s * p.R)=p.s then E (.ref F) none H else match least n aw with | none=>E (.ref N) none H | some _=>Q .non H
def sp_ask (w:World) (CH CR CS F N:Addr):Sp:=λvs H Q E=>∃ (z:HA) (sa:SA) (p:RP) (n:Nat) (aw:List Int) (M:List (PyData × V)) (r:Bool->List (PyData × V)) (wv:V) (A T:Int),vs=[.ref z.h,wv]/\Hn CH CR H z sa.x p n aw/\sa.At w CS H M r/\p.Ok/\n <= 9/\aw.length < 1000/\(r false).length < 99999 /\
 readV M (r false) (.str "asked")=.int A/\readV M (r false) (.str "taken")=.int T/\if (A - T) % (p.s * p.R)=p.s then E (.ref F) none H else match least n aw with
   | none=>E (.ref N) none H
   | some nm=>∀ t H',H t=none->H' t=some (.tup [.int nm,wv])->Hn CH CR H' z sa.x p n (aw++[nm])->sa.At w CS H' M (setR r false (r false++layRow p "ask" "asked" A (.ref t)))->Kp [z.gd,sa.l false] H H'->Q (.int nm) H'
def sp_under (CH CR:Addr):Sp:=λvs H Q _=>∃ (z:HA) (st:Addr) (p:RP) (n:Int) (aw:List Int),vs=[.ref z.h]/\Hn CH CR H z st p n aw/\aw.length < 64/\∀ (l:Addr) (ns:List Int),H l=none->ns.Perm aw->ns.Pairwise (· <= ·)->Q (.ref l) (upd H l (.lst (ns.map V.int)))
def sp_collect (w:World) (CH CR CS:Addr):Sp:=λvs H Q _=>∃ (z:HA) (sa:SA) (p:RP) (n:Int) (aw:List Int) (M:List (PyData × V)) (r:Bool->List (PyData × V)) (A T:Int),vs=[.ref z.h]/\Hn CH CR H z sa.x p n aw/\sa.At w CS H M r/\p.Ok/\(r false).length < 100000 /\
 readV M (r false) (.str "answered")=.int A/\readV M (r false) (.str "handed")=.int T/\(if (A - T) % (p.s * p.R)=0 then Q .non H else
   (∃ c nm wv,readV M (r false) (.tuple [.str "answer",.int (T % p.s)])=.ref c/\H c=some (.tup [.int nm,wv])/\∀ H',Hn CH CR H' z sa.x p n (aw.filter λk=>decide (k≠nm))->sa.At w CS H' M (setR r false (r false++[(.str "handed",.int ((T+1) % (p.s * p.R)))]))->Kp [z.gd,sa.l false] H H'->Q (.ref c) H') \/
   ∃ i,readV M (r false) (.tuple [.str "answer",.int (T % p.s)])=.int i/\∀ t H',H t=none->H' t=some (.tup [.non,.non])->Hn CH CR H' z sa.x p n aw->sa.At w CS H' M (setR r false (r false++[(.str "handed",.int ((T+1) % (p.s * p.R)))]))->Kp [sa.l false] H H'->Q (.ref t) H')
section
variable {P:Program} {w:World} {K:PySem.W.Frag} {mg:Str->Option Value} {base:Heap} {a:Ad} {d:Fd}
theorem ok_hinit (G:Gs K mg a d):FnOk P w K mg base CX0 4 a.Hand__init d.Hand__init ["self","store","size","rounds","names","faults"] (sp_hinit a.Hand a.Ring):=by
 have c_Ring__init:FnOk P w K mg base CX0 2 _ _ _ _:=ok_rinit G
 refine G.f_Hand__init.ok sc_Hand__init (λvs H Q E h=>?_) (λcdv A outer s H vs Q E hr h=>?_)
 · obtain ⟨h,dx,st,ft,s,R,n,fs,rfl,_⟩:=h
   rfl
 · obtain ⟨h,dx,st,ft,s,R,n,fs,rfl,hx,hf,k⟩:=h
   refine ⟨_,(@pss_cons _ _ _ _ _ (ps_fld (pv 0) (pe_make G.k_Ring c_Ring__init (hr.mono (by decide)) (by rfl) G.m_Ring G.b_Ring__init .nil pass0 (@pa_cons _ _ _ _ _ (pv 1) (@pa_cons _ _ _ _ _ pe_int (@pa_cons _ _ _ _ _ (pe_glob (v:=.ref a.T_ASKS) (by rfl) G.m_ASKS rfl) (@pa_cons _ _ _ _ _ (pv 2) (@pa_cons _ _ _ _ _ (pv 3) (@pa_cons _ _ _ _ _ (pv 5) pa_nil (by rfl)) (by rfl)) (by rfl)) (by rfl)) (by rfl)) (by rfl))) rfl)
     (@pss_cons _ _ _ _ _ (ps_fld (pv 0) (pe_make G.k_Ring c_Ring__init (hr.mono (by decide)) (by rfl) G.m_Ring G.b_Ring__init .nil pass0 (@pa_cons _ _ _ _ _ (pv 1) (@pa_cons _ _ _ _ _ pe_int (@pa_cons _ _ _ _ _ (pe_glob (v:=.ref a.T_ANSWERS) (by rfl) G.m_ANSWERS rfl) (@pa_cons _ _ _ _ _ (pv 2) (@pa_cons _ _ _ _ _ (pv 3) (@pa_cons _ _ _ _ _ (pv 5) pa_nil (by rfl)) (by rfl)) (by rfl)) (by rfl)) (by rfl)) (by rfl))) rfl)
     (@pss_cons _ _ _ _ _ (ps_fld (pv 0) (pv 4) rfl)
     (@pss_one _ _ _ (ps_fld (pv 0) pe_dnewK rfl))))),?_⟩
   refine ⟨_,rfl,_,rfl,_,rfl,_,rfl,λra da na nda nea=>?_⟩
   refine ⟨ra,da,st,a.T_ASKS,ft,false,"ask","asked","taken",s,R,fs,rfl,upd_same,G.t_ASKS,?_,λH1 r1 kp1=>?_⟩
   · rw [upd_ne (ne_of_none hf na),upd_ne (ne_of_none hf nda)];exact hf
   have e1:Same H H1:=λc o e=>kp1 c o (λz=>ne_of_none e na (List.mem_singleton.mp z)) (by rw [upd_ne (ne_of_none e na),upd_ne (ne_of_none e nda)];exact e)
   clear kp1
   refine ⟨rfl,_,rfl,h,a.Hand,dx,[],rfl,e1 _ _ hx,G.cl_Hand,G.na_Hand_asks,by decide,?_⟩
   have n1:ra≠h:=λz=>by rw [z,hx] at na;cases na
   have hx1:=e1 _ _ hx
   have kp2:Kp [h] H (upd H1 h (.ins a.Hand dx (putF "asks" (.ref ra) []))):=λc o n e=>by rw [upd_ne λz=>n (List.mem_singleton.mpr z)];exact e1 _ _ e
   have hx2:upd H1 h (.ins a.Hand dx (putF "asks" (.ref ra) [])) h=some (.ins a.Hand dx (putF "asks" (.ref ra) [])):=upd_same
   have r2:=r1.keep (H':=upd H1 h (.ins a.Hand dx (putF "asks" (.ref ra) []))) λo e=>by rw [upd_ne n1];exact e
   have hf2:upd H1 h (.ins a.Hand dx (putF "asks" (.ref ra) [])) ft=some (.tup (fs.map V.str)):=by
     rw [upd_ne (ne_of (e1 _ _ hf) hx1 (by intro z;cases z))];exact e1 _ _ hf
   generalize upd H1 h (.ins a.Hand dx (putF "asks" (.ref ra) []))=H2 at kp2 hx2 r2 hf2 ⊢
   refine ⟨_,rfl,_,rfl,_,rfl,_,rfl,λrb db nb ndb neb=>?_⟩
   refine ⟨rb,db,st,a.T_ANSWERS,ft,false,"answer","answered","handed",s,R,fs,rfl,upd_same,G.t_ANSWERS,?_,λH3 r3 kp3=>?_⟩
   · rw [upd_ne (ne_of_none hf2 nb),upd_ne (ne_of_none hf2 ndb)];exact hf2
   have e3:Same H2 H3:=λc o e=>kp3 c o (λz=>ne_of_none e nb (List.mem_singleton.mp z)) (by rw [upd_ne (ne_of_none e nb),upd_ne (ne_of_none e ndb)];exact e)
   clear kp3
   have nbH:H rb=none:=none_kp kp2 nb λx m=>by rw [List.mem_singleton.mp m,hx2];intro z;cases z
   have n3:rb≠h:=λz=>by rw [z,hx2] at nb;cases nb
   refine ⟨rfl,_,rfl,h,a.Hand,dx,_,rfl,e3 _ _ hx2,G.cl_Hand,G.na_Hand_answers,by show 1 < 1000;decide,?_⟩
   refine ⟨_,rfl,_,rfl,h,a.Hand,dx,_,rfl,upd_same,G.cl_Hand,G.na_Hand_names,by show 2 < 1000;decide,?_⟩
   rw [upd_upd]
   refine λgd hg=>⟨_,rfl,h,a.Hand,dx,_,rfl,(by rw [upd_ne (ne_of_none upd_same hg)];exact upd_same),G.cl_Hand,G.na_Hand_going,by show 3 < 1000;decide,?_⟩
   obtain ⟨ng,hg3⟩:=up1 hg
   have gdH:H gd=none:=none_kp kp2 (none_back e3 hg3) λx m=>by rw [List.mem_singleton.mp m,hx2];intro z;cases z
   refine k ⟨h,ra,rb,gd⟩ _ rfl na nbH gdH ⟨⟨dx,upd_same⟩,(r2.keep λo e=>e3 _ _ e).keep λo e=>?_,r3.keep λo e=>?_,?_⟩ λc o nc ec=>?_
   · rw [upd_ne n1,upd_ne (ne_of_none e hg3),upd_ne n1];exact e
   · rw [upd_ne n3,upd_ne (ne_of_none e hg3),upd_ne n3];exact e
   · rw [upd_ne ng,upd_same];rfl
   · have c1:c≠h:=λz=>nc (List.mem_singleton.mpr z)
     have e4:=e3 _ _ (kp2 c o nc ec)
     rw [upd_ne c1,upd_ne (ne_of_none e4 hg3),upd_ne c1];exact e4
theorem ok_least (G:Gs K mg a d):FnOk P w K mg base CX0 1 a.Hand_least_free d.Hand_least_free ["self"] (sp_least a.Hand a.Ring):=by
 refine G.f_Hand_least_free.ok sc_Hand_least_free (λvs H Q E h=>?_) (λcdv A outer s H vs Q E hr h=>?_)
 · obtain ⟨z,st,p,n,aw,rfl,_⟩:=h
   rfl
 · obtain ⟨z,st,p,n,aw,rfl,hn,hn9,k⟩:=h
   have hu:=hu_of hr
   refine ⟨_,(@pss_cons _ _ _ _ _ (ps_for PassesOwn.never rfl (pi_range1 (by rfl) G.n_range (@pa_cons _ _ _ _ _ (pe_fld (pv 0) rfl) pa_nil (by rfl))) (pg_name (i:=1) sc_Hand_least_free.nd rfl (Or.inl rfl)) (@pss_one _ _ _ (ps_if (pt_cmp (pc_dnotin hu (pv 1) (pe_fld (pv 0) rfl))) (@pss_one _ _ _ (@ps_ret _ _ _ _ (pv 1))) pss_nil)))
     (@pss_one _ _ _ (@ps_ret _ _ _ _ pe_non))),?_⟩
   obtain ⟨dx,hx⟩:=hn.ob
   refine ⟨_,rfl,fld hx G.cl_Hand G.na_Hand_names hF_names ⟨n,rfl,by omega,by omega,?_⟩⟩
   refine for_range (n:=((n:Nat):Int).toNat) (λi σ H'=>(∃ v,σ=[some (.ref z.h),v])/\H'=H/\∀ j < i,aw.contains (j:Int)=true) ⟨⟨_,rfl⟩,rfl,λj hj=>absurd hj (by omega)⟩ ?_ ?_
   · rintro i σ H' hi ⟨⟨v,rfl⟩,rfl,hno⟩
     rw [Int.zero_add]
     refine ⟨_,rfl,_,rfl,fld hx G.cl_Hand G.na_Hand_going hF_going ⟨z.gd,_,rfl,DGet.k (k:=.inl (i:Int)) hn.go,_,rfl,?_⟩⟩
     rw [gK_val]
     cases hc:aw.contains (i:Int) with
     | false =>
       rw [least_some (by omega) hc hno] at k
       exact iteT ⟨_,rfl,k⟩
     | true =>
       refine iteF ⟨⟨_,rfl⟩,rfl,λj hj=>?_⟩
       by_cases hji:j < i
       · exact hno j hji
       · have e:j=i:=by omega
         rw [e];exact hc
   · rintro σ H' ⟨⟨v,rfl⟩,rfl,hno⟩
     rw [least_none λj hj=>hno j (by omega)] at k
     exact k
theorem ok_check (G:Gs K mg a d):FnOk P w K mg base (CXv P w) 6 a.Hand_check_ask d.Hand_check_ask ["self"] (sp_check w a.Hand a.Ring a.Store a.Full a.NoName):=by
 have c_Ring_is_full:FnOk P w K mg base CX0 4 _ _ _ _:=ok_full G
 have c_Hand_least_free:FnOk P w K mg base CX0 1 _ _ _ _:=ok_least G
 refine G.f_Hand_check_ask.okX (k:=5) sc_Hand_check_ask (λvs H Q E h=>?_) (λcdv A' outer s' H vs Q E hr hR h=>?_)
 · obtain ⟨z,sa,p,n,aw,M,r,A,T,rfl,_⟩:=h
   rfl
 · obtain ⟨z,sa,p,n,aw,M,r,A,T,rfl,hn,S,hp,n9,hA,hT,k⟩:=h
   refine ⟨_,(@pss_cons _ _ _ _ _ (ps_if (pt_val (pe_meth0 (pe_fld (pv 0) rfl) G.cl_Ring G.mt_Ring_is_full c_Ring_is_full (hr.mono (by decide)) G.b_Ring_is_full .nil pass0)) (@pss_one _ _ _ (ps_raise hR hr.hd (by rfl) G.m_Full G.xc_Full (@pa_cons _ _ _ _ _ pe_str pa_nil (by rfl)))) pss_nil)
     (@pss_one _ _ _ (ps_if (pt_cmpR op_isN (pe_meth0 (pv 0) G.cl_Hand G.mt_Hand_least_free c_Hand_least_free (hr.mono (by decide)) G.b_Hand_least_free .nil pass0) pe_non (nomark _)) (@pss_one _ _ _ (ps_raise hR hr.hd (by rfl) G.m_NoName G.xc_NoName (@pa_cons _ _ _ _ _ pe_str pa_nil (by rfl)))) pss_nil))),?_⟩
   obtain ⟨dx,hx⟩:=hn.ob
   obtain ⟨dr,hra⟩:=hn.ra
   refine ⟨_,rfl,fld hx G.cl_Hand G.na_Hand_asks hF_asks ⟨z.ra,dr,_,rfl,hra,rF_full,z.ra,sa,false,"ask","asked","taken",p,M,r,A,T,rfl,⟨dr,hra⟩,S,hp,by decide +kernel,by decide +kernel,hA,hT,_,rfl,?_⟩⟩
   by_cases hc:(A - T) % (p.s * p.R)=p.s
   · rw [if_pos hc] at k
     exact iteDT hc ⟨by show 1 <= sizeLine;decide,k⟩
   rw [if_neg hc] at k
   refine iteDF hc ?_
   refine ⟨_,rfl,z.h,dx,_,rfl,hx,hF_least,z,sa.x,p,n,aw,rfl,hn,n9,rfl,_,rfl,?_⟩
   cases hle:least n aw with
   | none =>
     rw [hle] at k
     exact iteDT rfl ⟨by show 1 <= sizeLine;decide,k⟩
   | some nm =>
     rw [hle] at k
     exact iteDF (by intro z;cases z) k
theorem ok_ask (G:Gs K mg a d):FnOk P w K mg base (CXv P w) 8 a.Hand_ask d.Hand_ask ["self","worth"] (sp_ask w a.Hand a.Ring a.Store a.Full a.NoName):=by
 have cx_Hand_check_ask:FnOk P w K mg base (CXv P w) 6 _ _ _ _:=ok_check G
 have c_Hand_least_free:FnOk P w K mg base CX0 1 _ _ _ _:=ok_least G
 have c_Ring_lay:FnOk P w K mg base CX0 4 _ _ _ _:=ok_lay G
 refine G.f_Hand_ask.okX (k:=7) sc_Hand_ask (λvs H Q E h=>?_) (λcdv A' outer s' H vs Q E hr hR h=>?_)
 · obtain ⟨z,sa,p,n,aw,M,r,wv,A,T,rfl,_⟩:=h
   rfl
 · obtain ⟨z,sa,p,n,aw,M,r,wv,A,T,rfl,hn,S,hp,n9,hal,hrl,hA,hT,k⟩:=h
   have hu:=hu_of hr
   refine ⟨_,(@pss_cons _ _ _ _ _ (@ps_expr _ _ _ _ (pe_meth0 (pv 0) G.cl_Hand G.mt_Hand_check_ask cx_Hand_check_ask (hr.mono (by decide)) G.b_Hand_check_ask .nil hR.passes) (by rfl))
     (@pss_cons _ _ _ _ _ (@ps_set _ _ 2 _ _ _ _ sc_Hand_ask.nd rfl (Or.inl rfl) (pe_meth0 (pv 0) G.cl_Hand G.mt_Hand_least_free c_Hand_least_free (hr.mono (by decide)) G.b_Hand_least_free .nil pass0) (by rfl) (by first | exact .inl rfl | exact .inr rfl | assumption))
     (@pss_cons _ _ _ _ _ (ps_dput hu (pe_fld (pv 0) rfl) (pv 2) pe_bl rfl)
     (@pss_cons _ _ _ _ _ (@ps_expr _ _ _ _ (pe_meth (pe_fld (pv 0) rfl) G.cl_Ring G.mt_Ring_lay c_Ring_lay (hr.mono (by decide)) G.b_Ring_lay .nil pass0 (@pa_cons _ _ _ _ _ (pv 2) (@pa_cons _ _ _ _ _ (pv 1) pa_nil (by rfl)) (by rfl))) (by rfl))
     (@pss_one _ _ _ (@ps_ret _ _ _ _ (pv 2))))))),?_⟩
   obtain ⟨dx,hx⟩:=hn.ob
   refine ⟨_,rfl,z.h,dx,_,rfl,hx,hF_check,z,sa,p,n,aw,M,r,A,T,rfl,hn,S,hp,n9,hA,hT,?_⟩
   by_cases hc:(A - T) % (p.s * p.R)=p.s
   · rw [if_pos hc] at k ⊢
     exact k
   rw [if_neg hc] at k ⊢
   cases hle:least n aw with
   | none=>rw [hle] at k;exact k
   | some nm =>
     rw [hle] at k
     refine ⟨_,rfl,z.h,dx,_,rfl,hx,hF_least,z,sa.x,p,n,aw,rfl,hn,n9,?_⟩
     rw [hle]
     refine ⟨_,rfl,fld hx G.cl_Hand G.na_Hand_going hF_going ⟨_,rfl,z.gd,_,rfl,DPut.k (k:=.inl nm) hn.go (Nat.lt_of_lt_of_le (by rw [gK_len];exact hal) (by decide)),?_⟩⟩
     rw [gK_put nm aw (least_free hle)]
     have n1:z.h≠z.gd:=ne_of hx hn.go (by intro z;cases z)
     have kp1:Kp [z.gd] H (upd H z.gd (.dK (gK (aw++[nm])))):=Kp.one
     have S1:=Sto.kp S kp1 (λc hc=>by rw [List.mem_singleton.mp hc];exact S.noD hn.go) (λc hc vs e=>by rw [List.mem_singleton.mp hc,hn.go] at e;cases e)
     have hn1:Hn a.Hand a.Ring (upd H z.gd (.dK (gK (aw++[nm])))) z sa.x p n (aw++[nm]):=by
       obtain ⟨d1,x1⟩:=hn.ra
       obtain ⟨d2,x2⟩:=hn.rb
       exact ⟨⟨dx,by rw [upd_ne n1];exact hx⟩,⟨d1,by rw [upd_ne (ne_of x1 hn.go (by intro z;cases z))];exact x1⟩,⟨d2,by rw [upd_ne (ne_of x2 hn.go (by intro z;cases z))];exact x2⟩,upd_same⟩
     generalize upd H z.gd (.dK (gK (aw++[nm])))=H1 at kp1 S1 hn1 ⊢
     obtain ⟨dx1,hx1⟩:=hn1.ob
     obtain ⟨dr,hra⟩:=hn1.ra
     refine ⟨_,rfl,fld hx1 G.cl_Hand G.na_Hand_asks hF_asks ⟨z.ra,dr,_,rfl,hra,rF_lay,_,rfl,_,rfl,z.ra,sa,false,"ask","asked","taken",p,M,r,A,.int nm,wv,rfl,⟨dr,hra⟩,S1,hp,by decide +kernel,by decide +kernel,hrl,hA,λt H2 n2 v2 S2 kp2=>⟨_,rfl,?_⟩⟩⟩
     refine k t H2 (none_kp kp1 n2 λx m=>by rw [List.mem_singleton.mp m,hn1.go];intro z;cases z) v2 (hn1.lists kp2 λc m=>.inl ?_) S2 λc o nc e=>?_
     · obtain ⟨ts,e,_⟩:=S1.rw false
       exact ⟨ts,by rw [List.mem_singleton.mp m];exact e⟩
     · exact kp2 c o (λm=>nc (List.mem_cons_of_mem _ m)) (kp1 c o (λm=>nc (by rw [List.mem_singleton.mp m];exact List.mem_cons_self)) e)
theorem ok_collect (G:Gs K mg a d):FnOk P w K mg base CX0 7 a.Hand_collect d.Hand_collect ["self"] (sp_collect w a.Hand a.Ring a.Store):=by
 have c_Ring_fetch:FnOk P w K mg base CX0 5 _ _ _ _:=ok_fetch G
 refine G.f_Hand_collect.ok sc_Hand_collect (λvs H Q E h=>?_) (λcdv A' outer s' H vs Q E hr h=>?_)
 · obtain ⟨z,sa,p,n,aw,M,r,A,T,rfl,_⟩:=h
   rfl
 · obtain ⟨z,sa,p,n,aw,M,r,A,T,rfl,hn,S,hp,hrl,hA,hT,k⟩:=h
   refine ⟨_,(@pss_cons _ _ _ _ _ (@ps_set _ _ 1 _ _ _ _ sc_Hand_collect.nd rfl (Or.inl rfl) (pe_meth0 (pe_fld (pv 0) rfl) G.cl_Ring G.mt_Ring_fetch c_Ring_fetch (hr.mono (by decide)) G.b_Ring_fetch .nil pass0) (by rfl) (by first | exact .inl rfl | exact .inr rfl | assumption))
     (@pss_cons _ _ _ _ _ (ps_if (pt_cmpR op_notN (pv 1) pe_non (nomark _)) (@pss_one _ _ _ (@ps_expr _ _ _ _ (pe_dpop2N (pe_fld (pv 0) rfl) (@pe_ix _ _ _ _ _ _ _ ix_tup (pv 1) pe_int (λ_ _=>rfl)) pe_non ⟨rfl,rfl,rfl,rfl⟩) (by rfl))) pss_nil)
     (@pss_one _ _ _ (@ps_ret _ _ _ _ (pv 1))))),?_⟩
   obtain ⟨dx,hx⟩:=hn.ob
   obtain ⟨dr,hrb⟩:=hn.rb
   refine ⟨_,rfl,fld hx G.cl_Hand G.na_Hand_answers hF_answers ⟨z.rb,dr,_,rfl,hrb,rF_fetch,z.rb,sa,false,"answer","answered","handed",p,M,r,A,T,rfl,⟨dr,hrb⟩,S,hp,by decide +kernel,by decide +kernel,by decide +kernel,hrl,hA,hT,?_⟩⟩
   by_cases h0:(A - T) % (p.s * p.R)=0
   · rw [if_pos h0] at k ⊢
     exact ⟨_,rfl,rfl,_,rfl,iteF ⟨_,rfl,k⟩⟩
   rw [if_neg h0] at k ⊢
   rcases k with ⟨c,nm,wv,hrd,hc,k⟩ | ⟨i,hrd,k⟩
   rotate_left
   · refine .inr ⟨i,hrd,λt H1 n1 v1 S1 kp1=>?_⟩
     have hn1:=hn.lists kp1 λc m=>.inl (by
       obtain ⟨ts,e,_⟩:=S.rw false
       exact ⟨ts,by rw [List.mem_singleton.mp m];exact e⟩)
     obtain ⟨dx1,hx1⟩:=hn1.ob
     exact ⟨_,rfl,rfl,_,rfl,iteT ⟨_,rfl,fld hx1 G.cl_Hand G.na_Hand_going hF_going ⟨z.gd,rfl,.inl ⟨_,.inl hn1.go⟩,_,rfl,t,_,_,_,rfl,rfl,SqT.of v1,rfl,_,hn1.go,.inr ⟨rfl,_,rfl,k t H1 n1 v1 hn1 S1 kp1⟩⟩⟩⟩
   refine .inl ⟨c,_,hrd,hc,λH1 S1 kp1=>?_⟩
   have hn1:=hn.lists kp1 λc m=>.inl (by
     obtain ⟨ts,e,_⟩:=S.rw false
     exact ⟨ts,by rw [List.mem_singleton.mp m];exact e⟩)
   have hc1:=kp1 _ _ (S.noT hc) hc
   obtain ⟨dx1,hx1⟩:=hn1.ob
   refine ⟨_,rfl,rfl,_,rfl,iteT ?_⟩
   refine ⟨_,rfl,fld hx1 G.cl_Hand G.na_Hand_going hF_going ⟨z.gd,rfl,.inl ⟨_,.inl hn1.go⟩,_,rfl,c,_,_,_,rfl,rfl,SqT.of hc1,rfl,_,hn1.go,.inl ⟨.inl nm,rfl,λv hv=>⟨_,rfl,?_⟩,λhv=>⟨_,rfl,?_⟩⟩⟩⟩
   · rw [gK_drop]
     refine k _ ?_ (S1.kp Kp.one (λc hc=>by rw [List.mem_singleton.mp hc];exact S1.noD hn1.go) λc hc vs e=>by rw [List.mem_singleton.mp hc,hn1.go] at e;cases e) λc o nc e=>?_
     · obtain ⟨d1,x1⟩:=hn1.ra
       obtain ⟨d2,x2⟩:=hn1.rb
       exact ⟨⟨dx1,by rw [upd_ne (ne_of hx1 hn1.go (by intro z;cases z))];exact hx1⟩,⟨d1,by rw [upd_ne (ne_of x1 hn1.go (by intro z;cases z))];exact x1⟩,⟨d2,by rw [upd_ne (ne_of x2 hn1.go (by intro z;cases z))];exact x2⟩,upd_same⟩
     · rw [upd_ne λz=>nc (by rw [z];exact List.mem_cons_self)]
       exact kp1 c o (λm=>nc (List.mem_cons_of_mem _ m)) e
   · rw [gK_val] at hv
     have hno:aw.contains nm=false:=by
       cases z:aw.contains nm with
       | false=>rfl
       | true=>rw [z] at hv;cases hv
     have ef:aw.filter (λk=>decide (k≠nm))=aw:=by
       rw [List.filter_eq_self]
       intro x hx
       refine decide_eq_true λz=>?_
       rw [z] at hx
       rw [List.contains_eq_mem,decide_eq_false_iff_not] at hno
       exact hno hx
     rw [ef] at k
     exact k H1 hn1 S1 λc o nc e=>kp1 c o (λm=>nc (List.mem_cons_of_mem _ m)) e
end

def sp_tinit (CT CR:Addr):Sp:=λvs H Q _=>∃ (h dx st ft:Addr) (s R:Int) (fs:List Str),vs=[.ref h,.ref st,.int s,.int R,.ref ft]/\H h=some (.ins CT dx [])/\H ft=some (.tup (fs.map V.str)) /\
 ∀ (z:TA') (H':Hp),z.h=h->H z.ra=none->H z.rb=none->H z.gd=none->Tn CT CR H' z st ⟨s,if fs.contains "round" then 1 else R,fs.contains "counter"⟩ []->Kp [h] H H'->Q .non H'
def sp_taske (w:World) (CT CR CS:Addr):Sp:=λvs H Q _=>∃ (z:TA') (sa:SA) (p:RP) (ts:List Int) (M:List (PyData × V)) (r:Bool->List (PyData × V)) (A T:Int),vs=[.ref z.h]/\Tn CT CR H z sa.x p ts/\sa.At w CS H M r/\p.Ok/\ts.length < 1000/\(r true).length < 100000 /\
 readV M (r true) (.str "asked")=.int A/\readV M (r true) (.str "taken")=.int T/\(if (A - T) % (p.s * p.R)=0 then Q .non H else
   (∃ c nm wv,readV M (r true) (.tuple [.str "ask",.int (T % p.s)])=.ref c/\H c=some (.tup [.int nm,wv])/\∀ H',Tn CT CR H' z sa.x p (gNext ts nm)->sa.At w CS H' M (setR r true (r true++[(.str "taken",.int ((T+1) % (p.s * p.R)))]))->Kp [z.gd,sa.l true] H H'->Q (.ref c) H') \/
   ∃ i,readV M (r true) (.tuple [.str "ask",.int (T % p.s)])=.int i/\∀ t H',H t=none->H' t=some (.tup [.non,.non])->Tn CT CR H' z sa.x p ts->sa.At w CS H' M (setR r true (r true++[(.str "taken",.int ((T+1) % (p.s * p.R)))]))->Kp [sa.l true] H H'->Q (.ref t) H')
def sp_checka (w:World) (CT CR CS F N:Addr):Sp:=λvs H Q E=>∃ (z:TA') (sa:SA) (p:RP) (ts:List Int) (M:List (PyData × V)) (r:Bool->List (PyData × V)) (A T nm:Int),vs=[.ref z.h,.int nm]/\Tn CT CR H z sa.x p ts/\sa.At w CS H M r/\p.Ok /\
 readV M (r true) (.str "answered")=.int A/\readV M (r true) (.str "handed")=.int T/\if ts.contains nm=false then E (.ref N) none H else if (A - T) % (p.s * p.R)=p.s then E (.ref F) none H else Q .non H
def sp_answer (w:World) (CT CR CS F N:Addr):Sp:=λvs H Q E=>∃ (z:TA') (sa:SA) (p:RP) (ts:List Int) (M:List (PyData × V)) (r:Bool->List (PyData × V)) (A T nm:Int) (wv:V),vs=[.ref z.h,.int nm,wv]/\Tn CT CR H z sa.x p ts/\sa.At w CS H M r/\p.Ok/\(r true).length < 99999 /\
 readV M (r true) (.str "answered")=.int A/\readV M (r true) (.str "handed")=.int T/\if ts.contains nm=false then E (.ref N) none H else if (A - T) % (p.s * p.R)=p.s then E (.ref F) none H else
   ∀ t H',H t=none->H' t=some (.tup [.int nm,wv])->Tn CT CR H' z sa.x p (ts.filter λk=>decide (k≠nm))->sa.At w CS H' M (setR r true (r true++layRow p "answer" "answered" A (.ref t)))->Kp [z.gd,sa.l true] H H'->Q .non H'
def sp_tasks (CT CR:Addr):Sp:=λvs H Q _=>∃ (z:TA') (st:Addr) (p:RP) (ts:List Int),vs=[.ref z.h]/\Tn CT CR H z st p ts/\ts.length < 64/\∀ (l:Addr) (ns:List Int),H l=none->ns.Perm ts->ns.Pairwise (· <= ·)->Q (.ref l) (upd H l (.lst (ns.map V.int)))
section
variable {P:Program} {w:World} {K:PySem.W.Frag} {mg:Str->Option Value} {base:Heap} {a:Ad} {d:Fd}
theorem ok_tinit (G:Gs K mg a d):FnOk P w K mg base CX0 4 a.Heart__init d.Heart__init ["self","store","size","rounds","faults"] (sp_tinit a.Heart a.Ring):=by
 have c_Ring__init:FnOk P w K mg base CX0 2 _ _ _ _:=ok_rinit G
 refine G.f_Heart__init.ok sc_Heart__init (λvs H Q E h=>?_) (λcdv A outer s H vs Q E hr h=>?_)
 · obtain ⟨h,dx,st,ft,s,R,fs,rfl,_⟩:=h
   rfl
 · obtain ⟨h,dx,st,ft,s,R,fs,rfl,hx,hf,k⟩:=h
   refine ⟨_,(@pss_cons _ _ _ _ _ (ps_fld (pv 0) (pe_make G.k_Ring c_Ring__init (hr.mono (by decide)) (by rfl) G.m_Ring G.b_Ring__init .nil pass0 (@pa_cons _ _ _ _ _ (pv 1) (@pa_cons _ _ _ _ _ pe_int (@pa_cons _ _ _ _ _ (pe_glob (v:=.ref a.T_ASKS) (by rfl) G.m_ASKS rfl) (@pa_cons _ _ _ _ _ (pv 2) (@pa_cons _ _ _ _ _ (pv 3) (@pa_cons _ _ _ _ _ (pv 4) pa_nil (by rfl)) (by rfl)) (by rfl)) (by rfl)) (by rfl)) (by rfl))) rfl)
     (@pss_cons _ _ _ _ _ (ps_fld (pv 0) (pe_make G.k_Ring c_Ring__init (hr.mono (by decide)) (by rfl) G.m_Ring G.b_Ring__init .nil pass0 (@pa_cons _ _ _ _ _ (pv 1) (@pa_cons _ _ _ _ _ pe_int (@pa_cons _ _ _ _ _ (pe_glob (v:=.ref a.T_ANSWERS) (by rfl) G.m_ANSWERS rfl) (@pa_cons _ _ _ _ _ (pv 2) (@pa_cons _ _ _ _ _ (pv 3) (@pa_cons _ _ _ _ _ (pv 4) pa_nil (by rfl)) (by rfl)) (by rfl)) (by rfl)) (by rfl)) (by rfl))) rfl)
     (@pss_one _ _ _ (ps_fld (pv 0) pe_dnewK rfl)))),?_⟩
   refine ⟨_,rfl,_,rfl,_,rfl,_,rfl,λra da na nda nea=>?_⟩
   refine ⟨ra,da,st,a.T_ASKS,ft,true,"ask","asked","taken",s,R,fs,rfl,upd_same,G.t_ASKS,?_,λH1 r1 kp1=>?_⟩
   · rw [upd_ne (ne_of_none hf na),upd_ne (ne_of_none hf nda)];exact hf
   have e1:Same H H1:=λc o e=>kp1 c o (λz=>ne_of_none e na (List.mem_singleton.mp z)) (by rw [upd_ne (ne_of_none e na),upd_ne (ne_of_none e nda)];exact e)
   clear kp1
   refine ⟨rfl,_,rfl,h,a.Heart,dx,[],rfl,e1 _ _ hx,G.cl_Heart,G.na_Heart_asks,by decide,?_⟩
   have n1:ra≠h:=λz=>by rw [z,hx] at na;cases na
   have hx1:=e1 _ _ hx
   have kp2:Kp [h] H (upd H1 h (.ins a.Heart dx (putF "asks" (.ref ra) []))):=λc o n e=>by rw [upd_ne λz=>n (List.mem_singleton.mpr z)];exact e1 _ _ e
   have hx2:upd H1 h (.ins a.Heart dx (putF "asks" (.ref ra) [])) h=some (.ins a.Heart dx (putF "asks" (.ref ra) [])):=upd_same
   have r2:=r1.keep (H':=upd H1 h (.ins a.Heart dx (putF "asks" (.ref ra) []))) λo e=>by rw [upd_ne n1];exact e
   have hf2:upd H1 h (.ins a.Heart dx (putF "asks" (.ref ra) [])) ft=some (.tup (fs.map V.str)):=by
     rw [upd_ne (ne_of (e1 _ _ hf) hx1 (by intro z;cases z))];exact e1 _ _ hf
   generalize upd H1 h (.ins a.Heart dx (putF "asks" (.ref ra) []))=H2 at kp2 hx2 r2 hf2 ⊢
   refine ⟨_,rfl,_,rfl,_,rfl,_,rfl,λrb db nb ndb neb=>?_⟩
   refine ⟨rb,db,st,a.T_ANSWERS,ft,true,"answer","answered","handed",s,R,fs,rfl,upd_same,G.t_ANSWERS,?_,λH3 r3 kp3=>?_⟩
   · rw [upd_ne (ne_of_none hf2 nb),upd_ne (ne_of_none hf2 ndb)];exact hf2
   have e3:Same H2 H3:=λc o e=>kp3 c o (λz=>ne_of_none e nb (List.mem_singleton.mp z)) (by rw [upd_ne (ne_of_none e nb),upd_ne (ne_of_none e ndb)];exact e)
   clear kp3
   have nbH:H rb=none:=none_kp kp2 nb λx m=>by rw [List.mem_singleton.mp m,hx2];intro z;cases z
   have n3:rb≠h:=λz=>by rw [z,hx2] at nb;cases nb
   refine ⟨rfl,_,rfl,h,a.Heart,dx,_,rfl,e3 _ _ hx2,G.cl_Heart,G.na_Heart_answers,by show 1 < 1000;decide,?_⟩
   refine λgd hg=>⟨_,rfl,h,a.Heart,dx,_,rfl,(by rw [upd_ne (ne_of_none upd_same hg)];exact upd_same),G.cl_Heart,G.na_Heart_doing,by show 2 < 1000;decide,?_⟩
   obtain ⟨ng,hg3⟩:=up1 hg
   have gdH:H gd=none:=none_kp kp2 (none_back e3 hg3) λx m=>by rw [List.mem_singleton.mp m,hx2];intro z;cases z
   refine k ⟨h,ra,rb,gd⟩ _ rfl na nbH gdH ⟨⟨dx,upd_same⟩,(r2.keep λo e=>e3 _ _ e).keep λo e=>?_,r3.keep λo e=>?_,?_⟩ λc o nc ec=>?_
   · rw [upd_ne n1,upd_ne (ne_of_none e hg3),upd_ne n1];exact e
   · rw [upd_ne n3,upd_ne (ne_of_none e hg3),upd_ne n3];exact e
   · rw [upd_ne ng,upd_same];rfl
   · have c1:c≠h:=λz=>nc (List.mem_singleton.mpr z)
     have e4:=e3 _ _ (kp2 c o nc ec)
     rw [upd_ne c1,upd_ne (ne_of_none e4 hg3),upd_ne c1];exact e4
theorem ok_taske (G:Gs K mg a d):FnOk P w K mg base CX0 7 a.Heart_take d.Heart_take ["self"] (sp_taske w a.Heart a.Ring a.Store):=by
 have c_Ring_fetch:FnOk P w K mg base CX0 5 _ _ _ _:=ok_fetch G
 refine G.f_Heart_take.ok sc_Heart_take (λvs H Q E h=>?_) (λcdv A' outer s' H vs Q E hr h=>?_)
 · obtain ⟨z,sa,p,ts,M,r,A,T,rfl,_⟩:=h
   rfl
 · obtain ⟨z,sa,p,ts,M,r,A,T,rfl,hn,S,hp,htl,hrl,hA,hT,k⟩:=h
   have hu:=hu_of hr
   refine ⟨_,(@pss_cons _ _ _ _ _ (@ps_set _ _ 1 _ _ _ _ sc_Heart_take.nd rfl (Or.inl rfl) (pe_meth0 (pe_fld (pv 0) rfl) G.cl_Ring G.mt_Ring_fetch c_Ring_fetch (hr.mono (by decide)) G.b_Ring_fetch .nil pass0) (by rfl) (by first | exact .inl rfl | exact .inr rfl | assumption))
     (@pss_cons _ _ _ _ _ (ps_if ((pw_and (pt_cmpR op_notN (pv 1) pe_non (nomark _)) (pw_and1 (pt_cmpR op_notN (@pe_ix _ _ _ _ _ _ _ ix_tup (pv 1) pe_int (λ_ _=>rfl)) pe_non (nomark _))))).pt (@pss_one _ _ _ (ps_dput hu (pe_fld (pv 0) rfl) (@pe_ix _ _ _ _ _ _ _ ix_tup (pv 1) pe_int (λ_ _=>rfl)) pe_bl rfl)) pss_nil)
     (@pss_one _ _ _ (@ps_ret _ _ _ _ (pv 1))))),?_⟩
   obtain ⟨dx,hx⟩:=hn.ob
   obtain ⟨dr,hra⟩:=hn.ra
   refine ⟨_,rfl,fld hx G.cl_Heart G.na_Heart_asks tF_asks ⟨z.ra,dr,_,rfl,hra,rF_fetch,z.ra,sa,true,"ask","asked","taken",p,M,r,A,T,rfl,⟨dr,hra⟩,S,hp,by decide +kernel,by decide +kernel,by decide +kernel,hrl,hA,hT,?_⟩⟩
   by_cases h0:(A - T) % (p.s * p.R)=0
   · rw [if_pos h0] at k ⊢
     exact ⟨_,rfl,rfl,_,rfl,iteF ⟨_,rfl,k⟩⟩
   rw [if_neg h0] at k ⊢
   rcases k with ⟨c,nm,wv,hrd,hc,k⟩ | ⟨i,hrd,k⟩
   · refine .inl ⟨c,_,hrd,hc,λH1 S1 kp1=>?_⟩
     have hn1:=hn.lists kp1 λc m=>.inl (by
       obtain ⟨ts,e,_⟩:=S.rw true
       exact ⟨ts,by rw [List.mem_singleton.mp m];exact e⟩)
     have hc1:=kp1 _ _ (S.noT hc) hc
     obtain ⟨dx1,hx1⟩:=hn1.ob
     refine ⟨_,rfl,rfl,_,rfl,iteT ⟨_,rfl,c,_,_,_,rfl,rfl,SqT.of hc1,rfl,rfl,_,rfl,iteT ?_⟩⟩
     refine ⟨_,rfl,fld hx1 G.cl_Heart G.na_Heart_doing tF_doing ⟨_,rfl,c,_,_,_,rfl,rfl,SqT.of hc1,rfl,z.gd,_,rfl,DPut.k (k:=.inl nm) hn1.go (Nat.lt_of_lt_of_le (by rw [gK_len];exact htl) (by decide)),_,rfl,?_⟩⟩
     rw [gK_next]
     refine k _ ?_ (S1.kp Kp.one (λc hc=>by rw [List.mem_singleton.mp hc];exact S1.noD hn1.go) λc hc vs e=>by rw [List.mem_singleton.mp hc,hn1.go] at e;cases e) λc o nc e=>?_
     · obtain ⟨d1,x1⟩:=hn1.ra
       obtain ⟨d2,x2⟩:=hn1.rb
       exact ⟨⟨dx1,by rw [upd_ne (ne_of hx1 hn1.go (by intro z;cases z))];exact hx1⟩,⟨d1,by rw [upd_ne (ne_of x1 hn1.go (by intro z;cases z))];exact x1⟩,⟨d2,by rw [upd_ne (ne_of x2 hn1.go (by intro z;cases z))];exact x2⟩,upd_same⟩
     · rw [upd_ne λz=>nc (by rw [z];exact List.mem_cons_self)]
       exact kp1 c o (λm=>nc (List.mem_cons_of_mem _ m)) e
   · refine .inr ⟨i,hrd,λt H1 n1 v1 S1 kp1=>?_⟩
     have hn1:=hn.lists kp1 λc m=>.inl (by
       obtain ⟨ts,e,_⟩:=S.rw true
       exact ⟨ts,by rw [List.mem_singleton.mp m];exact e⟩)
     exact ⟨_,rfl,rfl,_,rfl,iteT ⟨_,rfl,t,_,_,_,rfl,rfl,SqT.of v1,rfl,rfl,_,rfl,iteF ⟨_,rfl,k t H1 n1 v1 hn1 S1 kp1⟩⟩⟩
theorem ok_checka (G:Gs K mg a d):FnOk P w K mg base (CXv P w) 6 a.Heart_check_answer d.Heart_check_answer ["self","name"] (sp_checka w a.Heart a.Ring a.Store a.Full a.NoTask):=by
 have c_Ring_is_full:FnOk P w K mg base CX0 4 _ _ _ _:=ok_full G
 refine G.f_Heart_check_answer.okX (k:=5) sc_Heart_check_answer (λvs H Q E h=>?_) (λcdv A' outer s' H vs Q E hr hR h=>?_)
 · obtain ⟨z,sa,p,ts,M,r,A,T,nm,rfl,_⟩:=h
   rfl
 · obtain ⟨z,sa,p,ts,M,r,A,T,nm,rfl,hn,S,hp,hA,hT,k⟩:=h
   have hu:=hu_of hr
   refine ⟨_,(@pss_cons _ _ _ _ _ (ps_if (pt_cmp (pc_dnotin hu (pv 1) (pe_fld (pv 0) rfl))) (@pss_one _ _ _ (ps_raise hR hr.hd (by rfl) G.m_NoTask G.xc_NoTask (@pa_cons _ _ _ _ _ pe_str pa_nil (by rfl)))) pss_nil)
     (@pss_one _ _ _ (ps_if (pt_val (pe_meth0 (pe_fld (pv 0) rfl) G.cl_Ring G.mt_Ring_is_full c_Ring_is_full (hr.mono (by decide)) G.b_Ring_is_full .nil pass0)) (@pss_one _ _ _ (ps_raise hR hr.hd (by rfl) G.m_Full G.xc_Full (@pa_cons _ _ _ _ _ pe_str pa_nil (by rfl)))) pss_nil))),?_⟩
   obtain ⟨dx,hx⟩:=hn.ob
   obtain ⟨dr,hrb⟩:=hn.rb
   refine ⟨_,rfl,_,rfl,fld hx G.cl_Heart G.na_Heart_doing tF_doing ⟨z.gd,_,rfl,DGet.k (k:=.inl nm) hn.go,_,rfl,?_⟩⟩
   rw [gK_val]
   cases hc:ts.contains nm with
   | false =>
     rw [if_pos hc] at k
     exact iteT ⟨by show 1 <= sizeLine;decide,k⟩
   | true =>
     rw [if_neg (by rw [hc];decide)] at k
     refine iteF ?_
     refine ⟨_,rfl,fld hx G.cl_Heart G.na_Heart_answers tF_answers ⟨z.rb,dr,_,rfl,hrb,rF_full,z.rb,sa,true,"answer","answered","handed",p,M,r,A,T,rfl,⟨dr,hrb⟩,S,hp,by decide +kernel,by decide +kernel,hA,hT,_,rfl,?_⟩⟩
     by_cases hf:(A - T) % (p.s * p.R)=p.s
     · rw [if_pos hf] at k
       exact iteDT hf ⟨by show 1 <= sizeLine;decide,k⟩
     · rw [if_neg hf] at k
       exact iteDF hf k
theorem ok_answer (G:Gs K mg a d):FnOk P w K mg base (CXv P w) 8 a.Heart_answer d.Heart_answer ["self","name","worth"] (sp_answer w a.Heart a.Ring a.Store a.Full a.NoTask):=by
 have cx_Heart_check_answer:FnOk P w K mg base (CXv P w) 6 _ _ _ _:=ok_checka G
 have c_Ring_lay:FnOk P w K mg base CX0 4 _ _ _ _:=ok_lay G
 refine G.f_Heart_answer.okX (k:=7) sc_Heart_answer (λvs H Q E h=>?_) (λcdv A' outer s' H vs Q E hr hR h=>?_)
 · obtain ⟨z,sa,p,ts,M,r,A,T,nm,wv,rfl,_⟩:=h
   rfl
 · obtain ⟨z,sa,p,ts,M,r,A,T,nm,wv,rfl,hn,S,hp,hrl,hA,hT,k⟩:=h
   refine ⟨_,(@pss_cons _ _ _ _ _ (@ps_expr _ _ _ _ (pe_meth (pv 0) G.cl_Heart G.mt_Heart_check_answer cx_Heart_check_answer (hr.mono (by decide)) G.b_Heart_check_answer .nil hR.passes (@pa_cons _ _ _ _ _ (pv 1) pa_nil (by rfl))) (by rfl))
     (@pss_cons _ _ _ _ _ (@ps_expr _ _ _ _ (pe_meth (pe_fld (pv 0) rfl) G.cl_Ring G.mt_Ring_lay c_Ring_lay (hr.mono (by decide)) G.b_Ring_lay .nil pass0 (@pa_cons _ _ _ _ _ (pv 1) (@pa_cons _ _ _ _ _ (pv 2) pa_nil (by rfl)) (by rfl))) (by rfl))
     (@pss_one _ _ _ (@ps_expr _ _ _ _ (pe_dpop1 (pe_fld (pv 0) rfl) (pv 1) ⟨rfl,rfl,rfl,rfl⟩) (by rfl))))),?_⟩
   obtain ⟨dx,hx⟩:=hn.ob
   obtain ⟨dr,hrb⟩:=hn.rb
   refine ⟨_,rfl,z.h,dx,_,rfl,hx,tF_check,_,rfl,z,sa,p,ts,M,r,A,T,nm,rfl,hn,S,hp,hA,hT,?_⟩
   by_cases hc:ts.contains nm=false
   · rw [if_pos hc] at k ⊢
     exact k
   rw [if_neg hc] at k ⊢
   by_cases hf:(A - T) % (p.s * p.R)=p.s
   · rw [if_pos hf] at k ⊢
     exact k
   rw [if_neg hf] at k ⊢
   refine ⟨_,rfl,fld hx G.cl_Heart G.na_Heart_answers tF_answers ⟨z.rb,dr,_,rfl,hrb,rF_lay,_,rfl,_,rfl,z.rb,sa,true,"answer","answered","handed",p,M,r,A,.int nm,wv,rfl,⟨dr,hrb⟩,S,hp,by decide +kernel,by decide +kernel,hrl,hA,λt H1 n1 v1 S1 kp1=>?_⟩⟩
   have hn1:=hn.lists kp1 λc m=>.inl (by
     obtain ⟨ts,e,_⟩:=S.rw true
     exact ⟨ts,by rw [List.mem_singleton.mp m];exact e⟩)
   obtain ⟨dx1,hx1⟩:=hn1.ob
   have hv:valV (gK ts) (.inl nm)=some (.bl true):=by
     rw [gK_val]
     cases y:ts.contains nm with
     | true=>rfl
     | false=>exact absurd y hc
   refine ⟨_,rfl,fld hx1 G.cl_Heart G.na_Heart_doing tF_doing ⟨z.gd,rfl,.inl ⟨_,.inl hn1.go⟩,_,rfl,_,.inl nm,_,hn1.go,rfl,hv,?_⟩⟩
   rw [gK_drop]
   refine k t _ n1 ?_ ?_ (S1.kp Kp.one (λc hc=>by rw [List.mem_singleton.mp hc];exact S1.noD hn1.go) λc hc vs e=>by rw [List.mem_singleton.mp hc,hn1.go] at e;cases e) λc o nc e=>?_
   · rw [upd_ne (ne_of v1 hn1.go (by intro z;cases z))];exact v1
   · obtain ⟨d1,x1⟩:=hn1.ra
     obtain ⟨d2,x2⟩:=hn1.rb
     exact ⟨⟨dx1,by rw [upd_ne (ne_of hx1 hn1.go (by intro z;cases z))];exact hx1⟩,⟨d1,by rw [upd_ne (ne_of x1 hn1.go (by intro z;cases z))];exact x1⟩,⟨d2,by rw [upd_ne (ne_of x2 hn1.go (by intro z;cases z))];exact x2⟩,upd_same⟩
   · rw [upd_ne λz=>nc (by rw [z];exact List.mem_cons_self)]
     exact kp1 c o (λm=>nc (List.mem_cons_of_mem _ m)) e
end

def sp_initT (w:World) (C:Addr):Sp:=λvs H Q _=>∃ x dx,vs=[.ref x]/\H x=some (.ins C dx []) /\
 ∀ (sa:SA) (H':Hp),sa.x=x->(∀ c,sa.own c->c≠x->H c=none)->StT w C H' sa Mem.zero (λ_=>[])->Kp [x] H H'->Q .non H'
def sp_writeT (w:World) (C:Addr):Sp:=λvs H Q _=>∃ (sa:SA) (m:Mem) (rs:Bool->List Wr) (b:Bool) (cv wv:V) (x:Wr),vs=[.ref sa.x,.int (sdI b),cv,wv]/\StT w C H sa m rs/\(rs b).length < 99990/\KeyV H x.key cv/\DV H x.dat wv/\x.Ok /\
 ∀ H',StT w C H' sa m (setR rs b (rs b++[x]))->Kp [sa.l b] H H'->Q .non H'
def sp_drainT (w:World) (C:Addr):Sp:=λvs H Q _=>∃ (sa:SA) (m:Mem) (rs:Bool->List Wr) (b:Bool) (x:Wr) (rest:List Wr),vs=[.ref sa.x,.int (sdI b)]/\StT w C H sa m rs/\rs b=x :: rest /\
 ∀ H',StT w C H' sa (m.put x) (setR rs b rest)->Kp [sa.l b,sa.hd] H H'->Q .non H'
def wrD (x:Wr):PyData:=.tuple [x.key,x.dat]
def sp_waitsT (w:World) (C:Addr):Sp:=λvs H Q _=>∃ (sa:SA) (m:Mem) (rs:Bool->List Wr) (b:Bool),vs=[.ref sa.x,.int (sdI b)]/\StT w C H sa m rs /\
 ∀ (p:Addr) (ts:List V),H p=none->DVs H ((rs b).map wrD) ts->Q (.ref p) (upd H p (.lst ts))
theorem wrD_rows {H:Hp}:∀ {row:List Wr} {es:List (PyData × V)},Paired (WrR H) row es->Paired (RD H) es (row.map wrD)
 | _,_,.nil=>.nil
 | x :: _,_,.cons ⟨_,hk,hd⟩ t=>.cons ⟨x.dat,by rw [hk];rfl,hd⟩ (wrD_rows t)
theorem initT {w:World} {C:Addr} {vs:List V} {H:Hp} {Q:VK} {E:XK} (h:sp_initT w C vs H Q E):sp_init w C vs H Q E:=by
 obtain ⟨x,dx,rfl,hx,k⟩:=h
 refine ⟨x,dx,rfl,hx,λhd rl l H' f1 f2 f3 S kp=>k ⟨x,hd,rl,l⟩ H' rfl (λc hc n=>?_) ⟨[],_,S,MemR.zero,λ_=>.nil⟩ kp⟩
 rcases hc with y | y | y | y | y
 · exact absurd y n
 · rw [y];exact f1
 · rw [y];exact f2
 · rw [y];exact f3 _
 · rw [y];exact f3 _
theorem writeT {w:World} {C:Addr} {vs:List V} {H:Hp} {Q:VK} {E:XK} (h:sp_writeT w C vs H Q E):sp_write w C vs H Q E:=by
 obtain ⟨sa,m,rs,b,cv,wv,x,rfl,⟨M,r,S,R,P⟩,hl,hk,hd,ho,k⟩:=h
 have hl':=pairedLen (P b)
 refine ⟨sa.x,sa.hd,sa.rl,sa.l,M,r,b,cv,wv,x.key,rfl,S,by omega,hk,λH' S' kp=>k H' ?_ kp⟩
 have ht:∀ c vs,H c=some (.tup vs)->H' c=some (.tup vs):=λc vs e=>kp c _ (S.noT e) e
 exact StT.grow R P S' ht (.cons ⟨ho,rfl,DV.keep ht _ _ x.dat_kd hd⟩ .nil)
theorem drainT {w:World} {C:Addr} {vs:List V} {H:Hp} {Q:VK} {E:XK} (h:sp_drainT w C vs H Q E):sp_drain w C vs H Q E:=by
 obtain ⟨sa,m,rs,b,x,rest,rfl,⟨M,r,S,R,P⟩,hb,k⟩:=h
 have pb:=P b
 rw [hb] at pb
 cases hr:r b with
 | nil=>rw [hr] at pb;cases pb
 | cons q es =>
   rw [hr] at pb
   cases pb with
   | cons hx pt =>
     refine ⟨sa.x,sa.hd,sa.rl,sa.l,M,r,b,q.1,q.2,es,rfl,S,hr,Nat.lt_of_le_of_lt (StT.small S R) (by decide),λH' S' kp=>k H' ⟨_,_,S',?_,λc=>?_⟩ kp⟩
     all_goals
       have ht:∀ c vs,H c=some (.tup vs)->H' c=some (.tup vs):=λc vs e=>kp c _ (λmm=>by
         rcases List.mem_cons.mp mm with y | y
         · exact S.noT (b:=b) e (List.mem_singleton.mpr y)
         · obtain ⟨ee,e'⟩:=S.me.there
           rw [List.mem_singleton.mp y,e'] at e;cases e) e
     · exact (R.put hx).keep ht
     · by_cases e:c=b
       · subst e
         rw [setR_same,setR_same]
         exact Paired.mapP pt λ_ _ q=>q.keep ht
       · rw [setR_ne e,setR_ne e]
         exact Paired.mapP (P c) λ_ _ q=>q.keep ht
theorem waitsT {w:World} {C:Addr} {vs:List V} {H:Hp} {Q:VK} {E:XK} (h:sp_waitsT w C vs H Q E):sp_waits w C vs H Q E:=by
 obtain ⟨sa,m,rs,b,rfl,⟨M,r,S,R,P⟩,k⟩:=h
 exact ⟨sa.x,sa.hd,sa.rl,sa.l,M,r,b,rfl,S,λp ts hp pr=>k p ts hp (rows_dvs pr (wrD_rows (P b)))⟩
def sp_askT (w:World) (CH CR CS F N:Addr):Sp:=λvs H Q E=>∃ (z:HA) (sa:SA) (p:RP) (n:Nat) (aw:List Int) (m:Mem) (rs:Bool->List Wr) (wt:Int),vs=[.ref z.h,.int wt]/\Hn CH CR H z sa.x p n aw/\StT w CS H sa m rs/\p.Ok/\n <= 9/\aw.length < 1000/\(rs false).length < 99990 /\
 if aheadT p m (rs false) .asked .taken=p.s then E (.ref F) none H else match least n aw with
   | none=>E (.ref N) none H
   | some nm=>∀ H',Hn CH CR H' z sa.x p n (aw++[nm])->StT w CS H' sa m (setR rs false (rs false++layT p m (rs false) false .asked nm wt))->Kp [z.gd,sa.l false] H H'->Q (.int nm) H'
def sp_collectT (w:World) (CH CR CS:Addr):Sp:=λvs H Q _=>∃ (z:HA) (sa:SA) (p:RP) (n:Int) (aw:List Int) (m:Mem) (rs:Bool->List Wr),vs=[.ref z.h]/\Hn CH CR H z sa.x p n aw/\StT w CS H sa m rs/\p.Ok/\(rs false).length < 99990 /\
 (if aheadT p m (rs false) .answered .handed=0 then Q .non H else match rdP m (rs false) true (rdC m (rs false) .handed % p.s) with
   | some nw=>∀ c H',H' c=some (.tup [.int nw.1,.int nw.2])->Hn CH CR H' z sa.x p n (aw.filter λk=>decide (k≠nw.1))->StT w CS H' sa m (setR rs false (rs false++[nextT p m (rs false) .handed]))->Kp [z.gd,sa.l false] H H'->Q (.ref c) H'
   | none=>∀ c H',H' c=some (.tup [.non,.non])->Hn CH CR H' z sa.x p n aw->StT w CS H' sa m (setR rs false (rs false++[nextT p m (rs false) .handed]))->Kp [z.gd,sa.l false] H H'->Q (.ref c) H')
theorem askT {w:World} {CH CR CS F N:Addr} {vs:List V} {H:Hp} {Q:VK} {E:XK} (h:sp_askT w CH CR CS F N vs H Q E):sp_ask w CH CR CS F N vs H Q E:=by
 obtain ⟨z,sa,p,n,aw,m,rs,wt,rfl,hn,⟨M,r,S,R,P⟩,hp,n9,hal,hrl,k⟩:=h
 have hl:=pairedLen (P false)
 refine ⟨z,sa,p,n,aw,M,r,.int wt,rdC m (rs false) .asked,rdC m (rs false) .taken,rfl,hn,S,hp,n9,hal,by omega,readV_c R (P false) .asked,readV_c R (P false) .taken,?_⟩
 unfold aheadT at k
 by_cases hc:(rdC m (rs false) .asked - rdC m (rs false) .taken) % (p.s * p.R)=p.s
 · rw [if_pos hc] at k ⊢;exact k
 · rw [if_neg hc] at k ⊢
   cases hle:least n aw with
   | none=>rw [hle] at k;exact k
   | some nm =>
     rw [hle] at k
     intro t H' n2 v2 hn2 S2 kp2
     have ht:∀ c vs,H c=some (.tup vs)->H' c=some (.tup vs):=λc vs e=>kp2 c _ (λmm=>by
       rcases List.mem_cons.mp mm with y | y
       · rw [y,hn.go] at e;cases e
       · exact S.noT e y) e
     exact k H' hn2 (StT.grow R P S2 ht (lay_rows hp (by have:=least_lt hle;omega) v2)) kp2
theorem collectT {w:World} {CH CR CS:Addr} {vs:List V} {H:Hp} {Q:VK} {E:XK} (h:sp_collectT w CH CR CS vs H Q E):sp_collect w CH CR CS vs H Q E:=by
 obtain ⟨z,sa,p,n,aw,m,rs,rfl,hn,⟨M,r,S,R,P⟩,hp,hrl,k⟩:=h
 have hl:=pairedLen (P false)
 refine ⟨z,sa,p,n,aw,M,r,rdC m (rs false) .answered,rdC m (rs false) .handed,rfl,hn,S,hp,by omega,readV_c R (P false) .answered,readV_c R (P false) .handed,?_⟩
 unfold aheadT at k
 by_cases hc:(rdC m (rs false) .answered - rdC m (rs false) .handed) % (p.s * p.R)=0
 · rw [if_pos hc] at k ⊢;exact k
 · rw [if_neg hc] at k ⊢
   have ht:∀ {H':Hp} {xs:List Addr},(∀ x∈xs,x=z.gd\/x=sa.l false)->Kp xs H H'->∀ c vs,H c=some (.tup vs)->H' c=some (.tup vs):=λhx kp c vs e=>kp c _ (λmm=>by
     rcases hx c mm with y | y
     · rw [y,hn.go] at e;cases e
     · exact S.noT (b:=false) e (List.mem_singleton.mpr y)) e
   rcases readV_p R (P false) true (rdC m (rs false) .handed % p.s) with ⟨e1,e2⟩ | ⟨nm,wt,c,e1,e2,hc'⟩
   · rw [e1] at k
     refine .inr ⟨0,e2,λt H' n1 v1 hn1 S1 kp1=>k t H' v1 hn1 (StT.grow R P S1 (ht (λx mx=>.inr (List.mem_singleton.mp mx)) kp1) (.cons ⟨trivial,rfl,rfl⟩ .nil)) (kp1.mono λc mc=>List.mem_cons_of_mem _ mc)⟩
   · rw [e1] at k
     refine .inl ⟨c,nm,.int wt,e2,hc',λH' hn1 S1 kp1=>?_⟩
     have ht':=ht (λx mx=>by
       rcases List.mem_cons.mp mx with y | y
       · exact .inl y
       · exact .inr (List.mem_singleton.mp y)) kp1
     exact k c H' (ht' _ _ hc') hn1 (StT.grow R P S1 ht' (.cons ⟨trivial,rfl,rfl⟩ .nil)) kp1

def sp_takeT (w:World) (CT CR CS:Addr):Sp:=λvs H Q _=>∃ (z:TA') (sa:SA) (p:RP) (ts:List Int) (m:Mem) (rs:Bool->List Wr),vs=[.ref z.h]/\Tn CT CR H z sa.x p ts/\StT w CS H sa m rs/\p.Ok/\ts.length < 1000/\(rs true).length < 99990 /\
 (if aheadT p m (rs true) .asked .taken=0 then Q .non H else match rdP m (rs true) false (rdC m (rs true) .taken % p.s) with
   | some nw=>∀ c H',H' c=some (.tup [.int nw.1,.int nw.2])->Tn CT CR H' z sa.x p (gNext ts nw.1)->StT w CS H' sa m (setR rs true (rs true++[nextT p m (rs true) .taken]))->Kp [z.gd,sa.l true] H H'->Q (.ref c) H'
   | none=>∀ c H',H' c=some (.tup [.non,.non])->Tn CT CR H' z sa.x p ts->StT w CS H' sa m (setR rs true (rs true++[nextT p m (rs true) .taken]))->Kp [z.gd,sa.l true] H H'->Q (.ref c) H')
def sp_answerT (w:World) (CT CR CS F N:Addr):Sp:=λvs H Q E=>∃ (z:TA') (sa:SA) (p:RP) (ts:List Int) (m:Mem) (rs:Bool->List Wr) (nm wt:Int),vs=[.ref z.h,.int nm,.int wt]/\Tn CT CR H z sa.x p ts/\StT w CS H sa m rs/\p.Ok/\(rs true).length < 99990/\(∀ x∈ts,0 <= x/\x < 9) /\
 if ts.contains nm=false then E (.ref N) none H else if aheadT p m (rs true) .answered .handed=p.s then E (.ref F) none H else
   ∀ H',Tn CT CR H' z sa.x p (ts.filter λk=>decide (k≠nm))->StT w CS H' sa m (setR rs true (rs true++layT p m (rs true) true .answered nm wt))->Kp [z.gd,sa.l true] H H'->Q .non H'
theorem takeT {w:World} {CT CR CS:Addr} {vs:List V} {H:Hp} {Q:VK} {E:XK} (h:sp_takeT w CT CR CS vs H Q E):sp_taske w CT CR CS vs H Q E:=by
 obtain ⟨z,sa,p,ts,m,rs,rfl,hn,⟨M,r,S,R,P⟩,hp,htl,hrl,k⟩:=h
 have hl:=pairedLen (P true)
 refine ⟨z,sa,p,ts,M,r,rdC m (rs true) .asked,rdC m (rs true) .taken,rfl,hn,S,hp,htl,by omega,readV_c R (P true) .asked,readV_c R (P true) .taken,?_⟩
 unfold aheadT at k
 by_cases hc:(rdC m (rs true) .asked - rdC m (rs true) .taken) % (p.s * p.R)=0
 · rw [if_pos hc] at k ⊢;exact k
 · rw [if_neg hc] at k ⊢
   have ht:∀ {H':Hp} {xs:List Addr},(∀ x∈xs,x=z.gd\/x=sa.l true)->Kp xs H H'->∀ c vs,H c=some (.tup vs)->H' c=some (.tup vs):=λhx kp c vs e=>kp c _ (λmm=>by
     rcases hx c mm with y | y
     · rw [y,hn.go] at e;cases e
     · exact S.noT (b:=true) e (List.mem_singleton.mpr y)) e
   rcases readV_p R (P true) false (rdC m (rs true) .taken % p.s) with ⟨e1,e2⟩ | ⟨nm,wt,c,e1,e2,hc'⟩
   · rw [e1] at k
     refine .inr ⟨0,e2,λt H' n1 v1 hn1 S1 kp1=>k t H' v1 hn1 (StT.grow R P S1 (ht (λx mx=>.inr (List.mem_singleton.mp mx)) kp1) (.cons ⟨trivial,rfl,rfl⟩ .nil)) (kp1.mono λc mc=>List.mem_cons_of_mem _ mc)⟩
   · rw [e1] at k
     refine .inl ⟨c,nm,.int wt,e2,hc',λH' hn1 S1 kp1=>?_⟩
     have ht':=ht (λx mx=>by
       rcases List.mem_cons.mp mx with y | y
       · exact .inl y
       · exact .inr (List.mem_singleton.mp y)) kp1
     exact k c H' (ht' _ _ hc') hn1 (StT.grow R P S1 ht' (.cons ⟨trivial,rfl,rfl⟩ .nil)) kp1
theorem answerT {w:World} {CT CR CS F N:Addr} {vs:List V} {H:Hp} {Q:VK} {E:XK} (h:sp_answerT w CT CR CS F N vs H Q E):sp_answer w CT CR CS F N vs H Q E:=by
 obtain ⟨z,sa,p,ts,m,rs,nm,wt,rfl,hn,⟨M,r,S,R,P⟩,hp,hrl,hts,k⟩:=h
 have hl:=pairedLen (P true)
 refine ⟨z,sa,p,ts,M,r,rdC m (rs true) .answered,rdC m (rs true) .handed,nm,.int wt,rfl,hn,S,hp,by omega,readV_c R (P true) .answered,readV_c R (P true) .handed,?_⟩
 unfold aheadT at k
 by_cases h0:ts.contains nm=false
 · rw [if_pos h0] at k ⊢;exact k
 rw [if_neg h0] at k ⊢
 by_cases hc:(rdC m (rs true) .answered - rdC m (rs true) .handed) % (p.s * p.R)=p.s
 · rw [if_pos hc] at k ⊢;exact k
 · rw [if_neg hc] at k ⊢
   intro t H' n2 v2 hn2 S2 kp2
   have ht:∀ c vs,H c=some (.tup vs)->H' c=some (.tup vs):=λc vs e=>kp2 c _ (λmm=>by
     rcases List.mem_cons.mp mm with y | y
     · rw [y,hn.go] at e;cases e
     · exact S.noT e y) e
   exact k H' hn2 (StT.grow R P S2 ht (lay_rows hp (hts nm (by
     cases y:ts.contains nm with
     | false=>exact absurd y h0
     | true=>rw [List.contains_eq_mem] at y;exact of_decide_eq_true y)) v2)) kp2

def sp_whole:Sp:=λvs H Q _=>∃ i:Int,vs=[.int i]/\Q (.bl true) H
def sp_part:Sp:=λvs H Q _=>∃ (i:Int) (k:Str),vs=[.int i,.str k]/\∀ H',Same H H'->Q (.bl (partOk i k)) H'
def sp_isdeed:Sp:=λvs H Q _=>∃ (t:Addr) (x:Dd),vs=[.ref t]/\H t=some (.tup x.vs)/\x.Ok/\∀ H',Same H H'->Q (.bl true) H'
def sp_side:Sp:=λvs H Q _=>∃ (t:Addr) (x:Dd),vs=[.ref t]/\H t=some (.tup x.vs)/\∀ H',Same H H'->Q (.int (sdI x.side)) H'
section
variable {P:Program} {w:World} {K:PySem.W.Frag} {mg:Str->Option Value} {base:Heap} {a:Ad} {d:Fd}
theorem ok_whole (G:Gs K mg a d):FnOk P w K mg base CX0 1 a.is_whole d.is_whole ["value"] sp_whole:=by
 refine G.f_is_whole.ok sc_is_whole (λvs H Q E h=>?_) (λcdv A' outer s' H vs Q E hr h=>?_)
 · obtain ⟨i,rfl,_⟩:=h
   rfl
 · obtain ⟨i,rfl,k⟩:=h
   refine ⟨_,(@pss_one _ _ _ (@ps_ret _ _ _ _ (pe_and (pe_callB call_isinst (by rfl) G.n_isinstance bt_isinstance (@pa_cons _ _ _ _ _ (pv 0) (@pa_cons _ _ _ _ _ (pe_bltn (v:=.ty "int") (by rfl) G.n_int bt_int rfl) pa_nil (by rfl)) (by rfl))) (pe_one (pe_not (pe_callB call_isinst (by rfl) G.n_isinstance bt_isinstance (@pa_cons _ _ _ _ _ (pv 0) (@pa_cons _ _ _ _ _ (pe_bltn (v:=.ty "bool") (by rfl) G.n_bool bt_bool rfl) pa_nil (by rfl)) (by rfl)))))))),?_⟩
   exact ⟨_,rfl,_,_,.type "int",true,rfl,.int i,kx_ii,_,rfl,iteT ⟨_,rfl,_,_,.type "int",false,rfl,.int i,kx_ib,_,rfl,k⟩⟩
theorem ok_part (G:Gs K mg a d):FnOk P w K mg base CX0 2 a.is_part d.is_part ["value","kind"] sp_part:=by
 have c_is_whole:FnOk P w K mg base CX0 1 _ _ _ _:=ok_whole G
 refine G.f_is_part.ok sc_is_part (λvs H Q E h=>?_) (λcdv A' outer s' H vs Q E hr h=>?_)
 · obtain ⟨i,k,rfl,_⟩:=h
   rfl
 · obtain ⟨i,kd,rfl,k⟩:=h
   refine ⟨_,(@pss_cons _ _ _ _ _ (ps_if (pt_not (pt_val (pe_call c_is_whole (hr.mono (by decide)) (by rfl) G.m_is_whole G.f_is_whole.kp G.b_is_whole .nil pass0 (@pa_cons _ _ _ _ _ (pv 0) pa_nil (by rfl))))) (@pss_one _ _ _ (@ps_ret _ _ _ _ pe_bl)) pss_nil)
     (@pss_cons _ _ _ _ _ (ps_if (pt_cmpR op_eq (pv 1) pe_str (nomark _)) (@pss_one _ _ _ (@ps_ret _ _ _ _ (pe_chain op_le op_le (pe_un un_neg (pe_globI (by rfl) G.m_MOST_WORTH)) (pv 0) (pe_globI (by rfl) G.m_MOST_WORTH)))) pss_nil)
     (@pss_cons _ _ _ _ _ (ps_if (pt_cmpR op_eq (pv 1) pe_str (nomark _)) (@pss_one _ _ _ (@ps_ret _ _ _ _ (pe_cmpR op_in_seq (pv 0) (@pe_tup _ _ _ _ _ (@pa_cons _ _ _ _ _ pe_int (@pa_cons _ _ _ _ _ pe_int pa_nil (by rfl)) (by rfl))) (by with_unfolding_all rfl)))) pss_nil)
     (@pss_one _ _ _ (@ps_ret _ _ _ _ pe_bl))))),?_⟩
   refine ⟨_,rfl,i,rfl,_,rfl,iteF ?_⟩
   refine ⟨_,rfl,rfl,_,rfl,?_⟩
   by_cases h1:kd="worth"
   · refine iteC (decide_eq_true (by rw [h1])) ?_
     have e:partOk i kd=(decide (-1000000000 <= i) && decide (i <= 1000000000)):=by unfold partOk;rw [if_pos h1]
     refine ⟨_,rfl,_,rfl,_,_,rfl,rfl,_,rfl,?_⟩
     by_cases hb:-1000000000 <= i
     · refine iteC (decide_eq_true hb) ⟨_,_,rfl,rfl,?_⟩
       rw [decide_eq_true hb,Bool.true_and] at e
       show Q (.bl (decide (i <= 1000000000))) H
       rw [← e];exact k _ λ_ _ z=>z
     · refine iteN (by rw [decide_eq_true_eq];exact hb) ?_
       rw [decide_eq_false hb,Bool.false_and] at e
       show Q (.bl false) H
       rw [← e];exact k _ λ_ _ z=>z
   · refine iteN (by rw [decide_eq_true_eq];exact sne h1) ?_
     refine ⟨_,rfl,rfl,_,rfl,?_⟩
     by_cases h2:kd="side"
     · refine iteC (decide_eq_true (by rw [h2])) ?_
       have e:partOk i kd=(decide (i=0) || decide (i=1)):=by unfold partOk;rw [if_neg h1,if_pos h2]
       refine ⟨_,rfl,l2,λt ht=>⟨t,_,rfl,.inr (SqT.of upd_same),rfl,rfl,?_⟩⟩
       simp only [Bool.false_eq_true,if_false]
       have e2:inV (.int i) [V.int 0,V.int 1]=partOk i kd:=by
         have:=inV_int i [0,1]
         show inV (.int i) (([0,1]:List Int).map V.int)=_
         rw [this,e,List.contains_eq_mem,Bool.eq_iff_iff,decide_eq_true_eq,Bool.or_eq_true,decide_eq_true_eq,decide_eq_true_eq]
         simp
       rw [e2]
       exact k _ (same_new ht)
     · refine iteN (by rw [decide_eq_true_eq];exact sne h2) ?_
       have e:partOk i kd=true:=by unfold partOk;rw [if_neg h1,if_neg h2]
       show Q (.bl true) H
       rw [← e]
       exact k _ λ_ _ z=>z
theorem forms_at (x:Dd):∃ b,PyProof.Rows.KTD.datumAt x.word [("ask",a.V_FORMS_0),("collect",a.V_FORMS_1),("take",a.V_FORMS_2),("answer",a.V_FORMS_3),("bell",a.V_FORMS_4),("lie",a.V_FORMS_5),("look",a.V_FORMS_6),("drain",a.V_FORMS_7)]=some b/\(∀ (G:Gs K mg a d) (H:Hp),SqT K H b (x.ks.map V.str)):=by
 cases x
 · exact ⟨_,rfl,λG=>G.v_FORMS_0⟩
 · exact ⟨_,rfl,λG=>G.v_FORMS_1⟩
 · exact ⟨_,rfl,λG=>G.v_FORMS_2⟩
 · exact ⟨_,rfl,λG=>G.v_FORMS_3⟩
 · exact ⟨_,rfl,λG=>G.v_FORMS_4⟩
 · exact ⟨_,rfl,λG=>G.v_FORMS_5⟩
 · exact ⟨_,rfl,λG=>G.v_FORMS_6⟩
 · exact ⟨_,rfl,λG=>G.v_FORMS_7⟩
theorem ok_isdeed (G:Gs K mg a d):FnOk P w K mg base CX0 3 a.is_deed d.is_deed ["some"] sp_isdeed:=by
 have c_is_part:FnOk P w K mg base CX0 2 _ _ _ _:=ok_part G
 refine G.f_is_deed.ok sc_is_deed (λvs H Q E h=>?_) (λcdv A' outer s' H vs Q E hr h=>?_)
 · obtain ⟨t,x,rfl,_⟩:=h
   rfl
 · obtain ⟨t,x,rfl,ht,hx,k⟩:=h
   have hu:=hu_of hr
   refine ⟨_,(@pss_cons _ _ _ _ _ (ps_if ((pw_or (pt_not (pt_val (pe_callB call_isinst (by rfl) G.n_isinstance bt_isinstance (@pa_cons _ _ _ _ _ (pv 0) (@pa_cons _ _ _ _ _ (pe_bltn (v:=.ty "tuple") (by rfl) G.n_tuple bt_tuple rfl) pa_nil (by rfl)) (by rfl))))) (pw_or (pt_cmpR op_eq (pe_callB call_len_seq (by rfl) G.n_len bt_len (@pa_cons _ _ _ _ _ (pv 0) pa_nil (by rfl))) pe_int (nomark _)) (pw_or1 (pt_not (pt_val (pe_callB call_isinst (by rfl) G.n_isinstance bt_isinstance (@pa_cons _ _ _ _ _ (@pe_ix _ _ _ _ _ _ _ ix_tup (pv 0) pe_int (λ_ _=>rfl)) (@pa_cons _ _ _ _ _ (pe_bltn (v:=.ty "str") (by rfl) G.n_str bt_str rfl) pa_nil (by rfl)) (by rfl))))))))).pt (@pss_one _ _ _ (@ps_ret _ _ _ _ pe_bl)) pss_nil)
     (@pss_cons _ _ _ _ _ (@ps_set _ _ 1 _ _ _ _ sc_is_deed.nd rfl (Or.inl rfl) (pe_tabget (by rfl) G.m_FORMS G.f_FORMS (@pe_ix _ _ _ _ _ _ _ ix_tup (pv 0) pe_int (λ_ _=>rfl)) ⟨rfl,rfl,rfl,rfl⟩) (by rfl) (by first | exact .inl rfl | exact .inr rfl | assumption))
     (@pss_cons _ _ _ _ _ (ps_if ((pw_or (pt_cmpR op_isN (pv 1) pe_non (nomark _)) (pw_or1 (pt_cmpR op_ne (pe_callB call_len_seq (by rfl) G.n_len bt_len (@pa_cons _ _ _ _ _ (pv 0) pa_nil (by rfl))) (@pe_op _ _ _ _ _ _ _ _ op_add (pe_callB call_len_seq (by rfl) G.n_len bt_len (@pa_cons _ _ _ _ _ (pv 1) pa_nil (by rfl))) pe_int) (nomark _))))).pt (@pss_one _ _ _ (@ps_ret _ _ _ _ pe_bl)) pss_nil)
     (@pss_one _ _ _ (@ps_ret _ _ _ _ (pe_callB (call_all rfl) (by rfl) G.n_all bt_all (@pa_cons _ _ _ _ _ (by exact pe_comp2 (x:="value") (x2:="kind") (g:=gTup K 2 (gCons (gName 0) (gCons (gName 1) gNil))) (tc:=λ_ H Q=>Q true H) (te:=tCall sp_part [] E0 (tCons (tVar 0) (tCons (tVar 1) tNil))) (caps:=[]) (js:=[]) rfl (compOk rfl rfl (by decide +kernel) (by decide +kernel) rfl trivial rfl rfl) (compOk rfl rfl (by decide +kernel) (by decide +kernel) rfl trivial rfl rfl) (λC s₃ H₃ pins ex E'=>by exact pg_two rfl (show (["value","kind"]:List Str).Nodup from by decide +kernel) rfl rfl (.inl (lookup_relabel_local rfl)) (.inl (lookup_relabel_local rfl)) rfl rfl) (λy hy=>by cases hy) .nil (λy hy=>by cases hy) (pi_zip (by rfl) G.n_zip (@pa_cons _ _ _ _ _ (pe_slice sl_tup (pv 0) (po_some pe_int) po_none) (@pa_cons _ _ _ _ _ (pv 1) pa_nil (by rfl)) (by rfl))) (λC s₃ H₃ pins ex E'=>by exact pts_none) (λC s₃ H₃ pins ex E'=>by exact (pe_call c_is_part (hr.mono (by decide)) (by rfl) G.m_is_part G.f_is_part.kp G.b_is_part .nil pass0 (@pa_cons _ _ _ _ _ (pv 0) (@pa_cons _ _ _ _ _ (pv 1) pa_nil (by rfl)) (by rfl))))) pa_nil (by rfl)))))))),?_⟩
   obtain ⟨b,hb,hs⟩:=forms_at (K:=K) (mg:=mg) (d:=d) (a:=a) x
   have hs:=hs G
   obtain ⟨l1,l2'⟩:=x.len
   have ht':H t=some (.tup (.str x.word :: x.args.map V.int)):=by rw [← x.vs_eq];exact ht
   refine ⟨_,rfl,_,_,.type "tuple",true,rfl,.tup ht',kx_tt,_,rfl,iteF ?_⟩
   refine ⟨_,rfl,t,_,rfl,.inr (SqT.of ht'),rfl,_,rfl,iteN (by rw [decide_eq_true_eq];exact λy=>by have:=vint_inj y;rw [List.length_cons] at this;omega) ?_⟩
   refine ⟨_,rfl,t,_,_,_,rfl,rfl,SqT.of ht',atI_zero,_,_,.type "str",true,rfl,.str _,kx_ss,_,rfl,iteF ?_⟩
   refine ⟨_,rfl,t,_,_,_,rfl,rfl,SqT.of ht',atI_zero,x.word,rfl,?_⟩
   rw [hb]
   refine ⟨_,rfl,rfl,_,rfl,iteF ?_⟩
   refine ⟨_,rfl,t,_,rfl,.inr (SqT.of ht'),_,rfl,b,_,rfl,.inr (hs H),_,_,rfl,rfl,rfl,_,rfl,iteN ?_ ?_⟩
   · rw [Bool.not_eq_true',decide_eq_false_iff_not,Decidable.not_not]
     refine congrArg V.int ?_
     rw [List.length_cons,List.length_map,List.length_map,l1];rfl
   refine ⟨_,rfl,_,rfl,t,_,rfl,SqT.of ht',?_,λp1 hp1=>⟨_,rfl,true,p1,b,_,_,rfl,SqT.of upd_same,hs _,?_⟩⟩
   · rintro ⟨y,_⟩
     rw [show (some (1:Int))=some ((1:Nat):Int) from rfl,HT.sIx_nat,List.length_cons] at y
     omega
   have e1:=same_new (o:=.tup (cutV (V.str x.word :: x.args.map V.int) (some 1) none)) hp1
   rw [show (some (1:Int))=some ((1:Nat):Int) from rfl,cutV_fromY,show List.drop 1 (V.str x.word :: x.args.map V.int)=x.args.map V.int from rfl] at e1 ⊢
   have v1:upd H p1 (.tup (x.args.map V.int)) p1=some (.tup (x.args.map V.int)):=upd_same
   intro D hD
   generalize upd H p1 (.tup (x.args.map V.int))=H1 at e1 v1 hD ⊢
   refine ⟨λi mm ys H'=>i <= x.args.length/\mm=x.args.length - i/\ys=(List.replicate i true).map V.bl/\H' D=some (.lst ys)/\∀ c o,c≠D->H1 c=some o->H' c=some o,⟨_,Nat.zero_le _,rfl,rfl,upd_same,λc o n e=>by rw [upd_ne n];exact e⟩,?_⟩
   rintro i mm ys H2 ⟨hi,rfl,rfl,hD2,k2⟩
   have e2:Same H1 H2:=λc o e=>k2 c o (λy=>by rw [y,hD] at e;cases e) e
   refine ⟨hD2,Nat.lt_of_lt_of_le (show _ < 1000 by rw [List.length_map,List.length_replicate];omega) (by decide),?_⟩
   by_cases hii:i=x.args.length
   · refine .inl ⟨⟨_,SqT.of (e2 _ _ v1),by rw [List.length_map];omega⟩,D,List.replicate i true,rfl,SqL.of hD2,?_⟩
     have:(List.replicate i true).all id=true:=by
       rw [List.all_eq_true]
       intro y hy
       rw [(List.mem_replicate.mp hy).2];rfl
     rw [this]
     exact k _ (e1.trans e2)
   · have hlt:i < x.args.length:=by omega
     have hlt2:i < x.ks.length:=by omega
     refine .inr ⟨⟨_,_,_,_,SqT.of (e2 _ _ v1),hs _,by rw [List.getElem?_map,List.getElem?_eq_getElem hlt];rfl,by rw [List.getElem?_map,List.getElem?_eq_getElem hlt2];rfl⟩,?_⟩
     rintro v H3 ⟨T,xv,yv,hT,rfl,rfl,hxv,hyv⟩ v0 v1'
     have hxv:=hxv _ (SqT.of (e2 _ _ v1))
     have hyv:=hyv _ (hs _)
     rw [List.getElem?_map,List.getElem?_eq_getElem hlt] at hxv
     rw [List.getElem?_map,List.getElem?_eq_getElem hlt2] at hyv
     cases hxv
     cases hyv
     refine ⟨T,_,rfl,SqT.of upd_same,rfl,_,_,rfl,_,_,rfl,rfl,_,_,rfl,?_⟩
     refine iteT ⟨_,rfl,_,rfl,_,_,rfl,λH4 e4=>?_⟩
     have hp:=Dd.part hx i _ _ (List.getElem?_eq_getElem hlt) (List.getElem?_eq_getElem hlt2)
     rw [hp]
     have nD:D≠T:=λy=>by rw [← y,hD2] at hT;cases hT
     refine ⟨e4 _ _ (by rw [upd_ne nD];exact hD2),x.args.length - (i+1),by omega,by omega,rfl,by rw [List.replicate_succ',List.map_append];rfl,upd_same,λc o n e=>?_⟩
     rw [upd_ne n]
     exact e4 _ _ (same_new hT _ _ (k2 c o n e))
theorem ok_side (G:Gs K mg a d):FnOk P w K mg base CX0 1 a.side_of d.side_of ["some"] sp_side:=by
 refine G.f_side_of.ok sc_side_of (λvs H Q E h=>?_) (λcdv A' outer s' H vs Q E hr h=>?_)
 · obtain ⟨t,x,rfl,_⟩:=h
   rfl
 · obtain ⟨t,x,rfl,ht,k⟩:=h
   have hu:=hu_of hr
   refine ⟨_,(@pss_cons _ _ _ _ _ (ps_if (pt_cmpR op_in_seq (@pe_ix _ _ _ _ _ _ _ ix_tup (pv 0) pe_int (λ_ _=>rfl)) (@pe_tup _ _ _ _ _ (@pa_cons _ _ _ _ _ pe_str (@pa_cons _ _ _ _ _ pe_str pa_nil (by rfl)) (by rfl))) (by with_unfolding_all rfl)) (@pss_one _ _ _ (@ps_ret _ _ _ _ pe_int)) pss_nil)
     (@pss_cons _ _ _ _ _ (ps_if (pt_cmpR op_in_seq (@pe_ix _ _ _ _ _ _ _ ix_tup (pv 0) pe_int (λ_ _=>rfl)) (@pe_tup _ _ _ _ _ (@pa_cons _ _ _ _ _ pe_str (@pa_cons _ _ _ _ _ pe_str pa_nil (by rfl)) (by rfl))) (by with_unfolding_all rfl)) (@pss_one _ _ _ (@ps_ret _ _ _ _ pe_int)) pss_nil)
     (@pss_one _ _ _ (@ps_ret _ _ _ _ (@pe_ix _ _ _ _ _ _ _ ix_tup (pv 0) pe_int (λ_ _=>rfl)))))),?_⟩
   have ht':H t=some (.tup (.str x.word :: x.args.map V.int)):=by rw [← x.vs_eq];exact ht
   refine ⟨_,rfl,t,_,_,_,rfl,rfl,SqT.of ht',atI_zero,l2,λt1 h1=>⟨t1,_,rfl,.inr (SqT.of upd_same),rfl,rfl,_,rfl,?_⟩⟩
   have e1:=same_new (o:=.tup [V.str "ask",V.str "collect"]) h1
   generalize upd H t1 (.tup [V.str "ask",V.str "collect"])=H1 at e1 ⊢
   rcases x.grp with ⟨c1,hsd⟩ | ⟨c1,hsd⟩ | ⟨c1,hsd⟩
   · refine iteC ?_ ?_
     · rcases c1 with y | y<;>(rw [y];decide +kernel)
     · rw [hsd] at k
       exact k H1 e1
   · refine iteN ?_ ?_
     · rcases c1 with y | y<;>(rw [y];decide +kernel)
     refine ⟨_,rfl,t,_,_,_,rfl,rfl,SqT.of (e1 _ _ ht'),atI_zero,l2,λt2 h2=>⟨t2,_,rfl,.inr (SqT.of upd_same),rfl,rfl,_,rfl,iteC ?_ ?_⟩⟩
     · rcases c1 with y | y<;>(rw [y];decide +kernel)
     · rw [hsd] at k
       exact k _ (e1.trans (same_new h2))
   · refine iteN ?_ ?_
     · rcases c1 with y | y | y | y<;>(rw [y];decide +kernel)
     refine ⟨_,rfl,t,_,_,_,rfl,rfl,SqT.of (e1 _ _ ht'),atI_zero,l2,λt2 h2=>⟨t2,_,rfl,.inr (SqT.of upd_same),rfl,rfl,_,rfl,iteN ?_ ?_⟩⟩
     · rcases c1 with y | y | y | y<;>(rw [y];decide +kernel)
     rw [hsd] at ht'
     exact ⟨_,rfl,t,_,_,_,rfl,rfl,SqT.of ((e1.trans (same_new h2)) _ _ ht'),rfl,k _ (e1.trans (same_new h2))⟩
end

def sp_hcheckT (w:World) (CH CR CS F N:Addr):Sp:=λvs H Q E=>∃ (z:HA) (sa:SA) (p:RP) (n:Nat) (aw:List Int) (m:Mem) (rs:Bool->List Wr),vs=[.ref z.h]/\Hn CH CR H z sa.x p n aw/\StT w CS H sa m rs/\p.Ok/\n <= 9 /\
 if aheadT p m (rs false) .asked .taken=p.s then E (.ref F) none H else match least n aw with | none=>E (.ref N) none H | some _=>Q .non H
def sp_tcheckT (w:World) (CT CR CS F N:Addr):Sp:=λvs H Q E=>∃ (z:TA') (sa:SA) (p:RP) (ts:List Int) (m:Mem) (rs:Bool->List Wr) (nm:Int),vs=[.ref z.h,.int nm]/\Tn CT CR H z sa.x p ts/\StT w CS H sa m rs/\p.Ok /\
 if ts.contains nm=false then E (.ref N) none H else if aheadT p m (rs true) .answered .handed=p.s then E (.ref F) none H else Q .non H
theorem hcheckT {w:World} {CH CR CS F N:Addr} {vs:List V} {H:Hp} {Q:VK} {E:XK} (h:sp_hcheckT w CH CR CS F N vs H Q E):sp_check w CH CR CS F N vs H Q E:=by
 obtain ⟨z,sa,p,n,aw,m,rs,rfl,hn,⟨M,r,S,R,P⟩,hp,n9,k⟩:=h
 exact ⟨z,sa,p,n,aw,M,r,rdC m (rs false) .asked,rdC m (rs false) .taken,rfl,hn,S,hp,n9,readV_c R (P false) .asked,readV_c R (P false) .taken,k⟩
theorem tcheckT {w:World} {CT CR CS F N:Addr} {vs:List V} {H:Hp} {Q:VK} {E:XK} (h:sp_tcheckT w CT CR CS F N vs H Q E):sp_checka w CT CR CS F N vs H Q E:=by
 obtain ⟨z,sa,p,ts,m,rs,nm,rfl,hn,⟨M,r,S,R,P⟩,hp,k⟩:=h
 exact ⟨z,sa,p,ts,M,r,rdC m (rs true) .answered,rdC m (rs true) .handed,nm,rfl,hn,S,hp,readV_c R (P true) .answered,readV_c R (P true) .handed,k⟩
def rfC (a:Ad):Rf->Addr
 | .deed=>a.NoDeed
 | .full=>a.Full
 | .name=>a.NoName
 | .task=>a.NoTask
def sp_ycheck (w:World) (ad:Ad):Sp:=λvs H Q E=>∃ (a:YA) (q:YP) (S:YS) (x:Dd) (t:Addr),vs=[.ref a.y,.ref t]/\Yn w ad.Yard ad.Hand ad.Heart ad.Ring ad.Store H a q S/\q.Ok/\H t=some (.tup x.vs)/\x.Ok /\
 ∀ H',Same H H'->match x.chk q S with | none=>Q .non H' | some r=>E (.ref (rfC ad r)) none H'
def sp_yallow (w:World) (ad:Ad):Sp:=λvs H Q _=>∃ (a:YA) (q:YP) (S:YS) (x:Dd) (t:Addr),vs=[.ref a.y,.ref t]/\Yn w ad.Yard ad.Hand ad.Heart ad.Ring ad.Store H a q S/\q.Ok/\H t=some (.tup x.vs)/\x.Ok /\
 ∀ H',Same H H'->Q (.bl (x.chk q S).isNone) H'
theorem bd_at {f:Bool->Bd} (b:Bool):atI [V.str (f false).key,V.str (f true).key] (sdI b)=some (.str (f b).key):=by cases b<;>rfl
section
variable {P:Program} {w:World} {K:PySem.W.Frag} {mg:Str->Option Value} {base:Heap} {a:Ad} {d:Fd}
theorem ok_ycheck (G:Gs K mg a d):FnOk P w K mg base (CXv P w) 8 a.Yard_check d.Yard_check ["self","some"] (sp_ycheck w a):=by
 have c_is_deed:FnOk P w K mg base CX0 3 _ _ _ _:=ok_isdeed G
 have c_side_of:FnOk P w K mg base CX0 1 _ _ _ _:=ok_side G
 have c_Store_waits:FnOk P w K mg base CX0 1 _ _ _ _:=(ok_waits G).imp λvs H Q E=>waitsT
 have cx_Hand_check_ask:FnOk P w K mg base (CXv P w) 6 _ _ _ _:=(ok_check G).imp λvs H Q E=>hcheckT
 have cx_Heart_check_answer:FnOk P w K mg base (CXv P w) 6 _ _ _ _:=(ok_checka G).imp λvs H Q E=>tcheckT
 refine G.f_Yard_check.okX (k:=7) sc_Yard_check (λvs H Q E h=>?_) (λcdv A' outer s' H vs Q E hr hR h=>?_)
 · obtain ⟨y,q,S,x,t,rfl,_⟩:=h
   rfl
 · obtain ⟨y,q,S,x,t,rfl,Y,qo,ht,hx,k⟩:=h
   have hu:=hu_of hr
   refine ⟨_,(@pss_cons _ _ _ _ _ (ps_if (pt_not (pt_val (pe_call c_is_deed (hr.mono (by decide)) (by rfl) G.m_is_deed G.f_is_deed.kp G.b_is_deed .nil pass0 (@pa_cons _ _ _ _ _ (pv 1) pa_nil (by rfl))))) (@pss_one _ _ _ (ps_raise hR hr.hd (by rfl) G.m_NoDeed G.xc_NoDeed (@pa_cons _ _ _ _ _ pe_str pa_nil (by rfl)))) pss_nil)
     (@pss_cons _ _ _ _ _ (ps_if (pt_cmpR op_eq (@pe_ix _ _ _ _ _ _ _ ix_tup (pv 1) pe_int (λ_ _=>rfl)) pe_str (nomark _)) (@pss_cons _ _ _ _ _ (ps_if (pt_not (pt_truth (pe_meth (pe_fld (pv 0) rfl) G.cl_Store G.mt_Store_waits c_Store_waits (hr.mono (by decide)) G.b_Store_waits .nil pass0 (@pa_cons _ _ _ _ _ (@pe_ix _ _ _ _ _ _ _ ix_tup (pv 1) pe_int (λ_ _=>rfl)) pa_nil (by rfl))) (λ_=>rfl))) (@pss_one _ _ _ (ps_raise hR hr.hd (by rfl) G.m_NoDeed G.xc_NoDeed (@pa_cons _ _ _ _ _ pe_str pa_nil (by rfl)))) pss_nil)
     (@pss_one _ _ _ ps_retN)) pss_nil)
     (@pss_cons _ _ _ _ _ (ps_if (pt_cmpR op_ne (@pe_ix _ _ _ _ _ _ _ ix_list (pe_fld (pv 0) rfl) (pe_call c_side_of (hr.mono (by decide)) (by rfl) G.m_side_of G.f_side_of.kp G.b_side_of .nil pass0 (@pa_cons _ _ _ _ _ (pv 1) pa_nil (by rfl))) (λ_ _=>rfl)) (pe_ifExp (pt_cmpR op_eq (@pe_ix _ _ _ _ _ _ _ ix_tup (pv 1) pe_int (λ_ _=>rfl)) pe_str (nomark _)) pe_str pe_str) (nomark _)) (@pss_one _ _ _ (ps_raise hR hr.hd (by rfl) G.m_NoDeed G.xc_NoDeed (@pa_cons _ _ _ _ _ pe_str pa_nil (by rfl)))) pss_nil)
     (@pss_cons _ _ _ _ _ (ps_if (pt_cmpR op_eq (@pe_ix _ _ _ _ _ _ _ ix_tup (pv 1) pe_int (λ_ _=>rfl)) pe_str (nomark _)) (@pss_one _ _ _ (@ps_expr _ _ _ _ (pe_meth0 (pe_fld (pv 0) rfl) G.cl_Hand G.mt_Hand_check_ask cx_Hand_check_ask (hr.mono (by decide)) G.b_Hand_check_ask .nil hR.passes) (by rfl))) pss_nil)
     (@pss_one _ _ _ (ps_if (pt_cmpR op_eq (@pe_ix _ _ _ _ _ _ _ ix_tup (pv 1) pe_int (λ_ _=>rfl)) pe_str (nomark _)) (@pss_one _ _ _ (@ps_expr _ _ _ _ (pe_meth (pe_fld (pv 0) rfl) G.cl_Heart G.mt_Heart_check_answer cx_Heart_check_answer (hr.mono (by decide)) G.b_Heart_check_answer .nil hR.passes (@pa_cons _ _ _ _ _ (@pe_ix _ _ _ _ _ _ _ ix_tup (pv 1) pe_int (λ_ _=>rfl)) pa_nil (by rfl))) (by rfl))) pss_nil)))))),?_⟩
   have ht':H t=some (.tup (.str x.word :: x.args.map V.int)):=by rw [← x.vs_eq];exact ht
   refine ⟨_,rfl,t,x,rfl,ht,hx,λH1 e1=>⟨_,rfl,iteF ?_⟩⟩
   have Y1:=Y.same e1
   have ht1:=e1 _ _ ht'
   refine ⟨_,rfl,t,_,_,_,rfl,rfl,SqT.of ht1,atI_zero,rfl,_,rfl,?_⟩
   by_cases hd:∃ b,x=.drain b
   · obtain ⟨b,rfl⟩:=hd
     refine iteC (decide_eq_true rfl) ?_
     refine ⟨_,rfl,fldE Y1.ob G.cl_Yard G.na_Yard_shelf yF_shelf (mthE Y1.x.st.ob (stF_no (by decide +kernel) (by decide +kernel)) ?_)⟩
     refine ⟨_,rfl,t,_,_,_,rfl,rfl,SqT.of ht1,rfl,y.sa,S.m,S.rs,b,rfl,Y1.x.st,λp2 ts hp2 dv=>?_⟩
     have e2:=same_new (o:=.lst ts) hp2
     have hl:=dvs_len dv
     rw [List.length_map] at hl
     refine ⟨!ts.isEmpty,.inl ⟨_,SqL.of upd_same,rfl⟩,?_⟩
     have k2:=k _ (e1.trans e2)
     cases hrs:S.rs b with
     | nil =>
       rw [hrs] at hl
       have:ts=[]:=List.length_eq_zero_iff.mp hl
       subst this
       rw [show (Dd.drain b).chk q S=some .deed from if_pos hrs] at k2
       exact iteT ⟨by show 1 <= sizeLine;decide,k2⟩
     | cons r rest =>
       rw [hrs] at hl
       have:ts.isEmpty=false:=by cases ts with | nil=>cases hl | cons=>rfl
       rw [this]
       rw [show (Dd.drain b).chk q S=none from if_neg (by rw [hrs];exact λy=>by cases y)] at k2
       exact iteF k2
   · have hnd:∀ b,x≠.drain b:=λb e=>hd ⟨b,e⟩
     refine iteN (by rw [decide_eq_true_eq];exact sne λy=>hd ((x.word_drain).mp y)) ?_
     refine ⟨_,rfl,fldE Y1.ob G.cl_Yard G.na_Yard_sleepers yF_sleepers ?_⟩
     refine ⟨_,rfl,t,x,rfl,e1 _ _ ht,λH2 e2=>?_⟩
     have Y2:=Y1.same e2
     have ht2:=e2 _ _ ht1
     refine ⟨y.sl,_,_,_,rfl,rfl,SqL.of Y2.sl,bd_at x.side,?_⟩
     refine ⟨_,rfl,t,_,_,_,rfl,rfl,SqT.of ht2,atI_zero,rfl,_,rfl,?_⟩
     have e3:=e1.trans e2
     have bad:∀ {X:Prop},S.bd x.side≠x.need->E (.ref a.NoDeed) none H2:=λ{X} hb=>by
       have k2:=k H2 e3
       rw [Dd.chk_bed hnd hb] at k2
       exact k2
     rcases x.word_look with ⟨hw,hn,b,rfl⟩ | ⟨hw,hn⟩
     · refine iteC (decide_eq_true (by rw [hw])) ⟨rfl,_,rfl,?_⟩
       by_cases hb:S.bd (Dd.look b).side=(Dd.look b).need
       · refine iteN (by rw [hb,hn];decide +kernel) ?_
         refine ⟨_,rfl,t,_,_,_,rfl,rfl,SqT.of ht2,atI_zero,rfl,_,rfl,iteN (by rw [decide_eq_true_eq];exact sne (show ¬ (("look":Str)="ask") by decide +kernel)) ?_⟩
         refine ⟨_,rfl,t,_,_,_,rfl,rfl,SqT.of ht2,atI_zero,rfl,_,rfl,iteN (by rw [decide_eq_true_eq];exact sne (show ¬ (("look":Str)="answer") by decide +kernel)) ?_⟩
         have k2:=k H2 e3
         rw [show (Dd.look b).chk q S=none from if_pos hb] at k2
         exact k2
       · refine iteC ?_ ⟨by show 1 <= sizeLine;decide,bad (X:=True) hb⟩
         have:=bd_ne hb
         rw [hn] at this
         rw [Bool.not_eq_true',decide_eq_false_iff_not]
         exact this
     · refine iteN (by rw [decide_eq_true_eq];exact sne hw) ⟨rfl,_,rfl,?_⟩
       by_cases hb:S.bd x.side=x.need
       · refine iteN (by rw [hb,hn];decide +kernel) ?_
         rcases x.word_aa with ⟨wt,rfl⟩ | ⟨nm,wt,rfl⟩ | ⟨h1,h2,h3⟩
         · refine ⟨_,rfl,t,_,_,_,rfl,rfl,SqT.of ht2,atI_zero,rfl,_,rfl,iteC (decide_eq_true rfl) ?_⟩
           refine ⟨_,rfl,fldE Y2.ob G.cl_Yard G.na_Yard_hand yF_hand (mthE Y2.x.hn.ob hF_check ⟨y.z,y.sa,q.p,q.n,S.un,S.m,S.rs,rfl,Y2.x.hn,Y2.x.st,qo.ok,qo.n9,?_⟩)⟩
           have k2:=k H2 e3
           rw [show (Dd.ask wt).chk q S=_ from if_pos hb] at k2
           by_cases hc:aheadT q.p S.m (S.rs false) .asked .taken=q.p.s
           · rw [if_pos hc] at k2 ⊢
             exact k2
           · rw [if_neg hc] at k2 ⊢
             cases hl:least q.n S.un with
             | none=>rw [hl] at k2;exact k2
             | some nm =>
               rw [hl] at k2
               exact ⟨_,rfl,t,_,_,_,rfl,rfl,SqT.of ht2,atI_zero,rfl,_,rfl,iteN (by rw [decide_eq_true_eq];exact sne (show ¬ (("ask":Str)="answer") by decide +kernel)) k2⟩
         · refine ⟨_,rfl,t,_,_,_,rfl,rfl,SqT.of ht2,atI_zero,rfl,_,rfl,iteN (by rw [decide_eq_true_eq];exact sne (show ¬ (("answer":Str)="ask") by decide +kernel)) ?_⟩
           refine ⟨_,rfl,t,_,_,_,rfl,rfl,SqT.of ht2,atI_zero,rfl,_,rfl,iteC (decide_eq_true rfl) ?_⟩
           refine ⟨_,rfl,fldE Y2.ob G.cl_Yard G.na_Yard_heart yF_heart (mthE Y2.x.tn.ob tF_check ⟨_,rfl,t,_,_,_,rfl,rfl,SqT.of ht2,rfl,y.zt,y.sa,q.p,S.tk,S.m,S.rs,nm,rfl,Y2.x.tn,Y2.x.st,qo.ok,?_⟩)⟩
           have k2:=k H2 e3
           rw [show (Dd.answer nm wt).chk q S=_ from if_pos hb] at k2
           by_cases h0:S.tk.contains nm=false
           · rw [if_pos h0] at k2 ⊢
             exact k2
           · rw [if_neg h0] at k2 ⊢
             by_cases hc:aheadT q.p S.m (S.rs true) .answered .handed=q.p.s
             · rw [if_pos hc] at k2 ⊢
               exact k2
             · rw [if_neg hc] at k2 ⊢
               exact k2
         · refine ⟨_,rfl,t,_,_,_,rfl,rfl,SqT.of ht2,atI_zero,rfl,_,rfl,iteN (by rw [decide_eq_true_eq];exact sne h1) ?_⟩
           refine ⟨_,rfl,t,_,_,_,rfl,rfl,SqT.of ht2,atI_zero,rfl,_,rfl,iteN (by rw [decide_eq_true_eq];exact sne h2) ?_⟩
           have k2:=k H2 e3
           rw [h3 q S hnd hb] at k2
           exact k2
       · refine iteC ?_ ⟨by show 1 <= sizeLine;decide,bad (X:=True) hb⟩
         have:=bd_ne hb
         rw [hn] at this
         rw [Bool.not_eq_true',decide_eq_false_iff_not]
         exact this
end

def ypOf (s R:Int) (n:Nat) (fs:List Str):YP:=⟨⟨s,if fs.contains "round" then 1 else R,fs.contains "counter"⟩,n,!fs.contains "bell",!fs.contains "lie",!fs.contains "look"⟩
def sp_yinit (w:World) (ad:Ad):Sp:=λvs H Q _=>∃ (y dx ft:Addr) (s R:Int) (n:Nat) (fs:List Str),vs=[.ref y,.int s,.int R,.int n,.ref ft]/\H y=some (.ins ad.Yard dx [])/\H ft=some (.tup (fs.map V.str)) /\
 ∀ (a:YA) (H':Hp),a.y=y->(∀ c,a.own c->c≠y->H c=none)->Yn w ad.Yard ad.Hand ad.Heart ad.Ring ad.Store H' a (ypOf s R n fs) YS.zero->Kp [y] H H'->Q .non H'
def sp_made (w:World) (ad:Ad):Sp:=λvs H Q _=>∃ (a:YA) (q:YP) (S:YS),vs=[.ref a.y]/\Yn w ad.Yard ad.Hand ad.Heart ad.Ring ad.Store H a q S/\∀ t,H t=none->Q (.ref t) (upd H t (.tup [.int q.p.s,.int q.p.R]))
def sp_story (w:World) (ad:Ad):Sp:=λvs H Q _=>∃ (a:YA) (q:YP) (S:YS),vs=[.ref a.y]/\Yn w ad.Yard ad.Hand ad.Heart ad.Ring ad.Store H a q S/\∀ l ts,H l=none->DVs H S.hs ts->Q (.ref l) (upd H l (.lst ts))
def sp_sleeper (w:World) (ad:Ad):Sp:=λvs H Q _=>∃ (a:YA) (q:YP) (S:YS) (b:Bool),vs=[.ref a.y,.int (sdI b)]/\Yn w ad.Yard ad.Hand ad.Heart ad.Ring ad.Store H a q S/\Q (.str (S.bd b).key) H
def sp_isquiet (w:World) (ad:Ad):Sp:=λvs H Q _=>∃ (a:YA) (q:YP) (S:YS) (b:Bool),vs=[.ref a.y,.int (sdI b)]/\Yn w ad.Yard ad.Hand ad.Heart ad.Ring ad.Store H a q S/\Q (.bl (S.qt b)) H
def sp_ystore (w:World) (ad:Ad):Sp:=λvs H Q _=>∃ (a:YA) (q:YP) (S:YS),vs=[.ref a.y]/\Yn w ad.Yard ad.Hand ad.Heart ad.Ring ad.Store H a q S/\Q (.ref a.sa.x) H
section
variable {P:Program} {w:World} {K:PySem.W.Frag} {mg:Str->Option Value} {base:Heap} {a:Ad} {d:Fd}
theorem ok_story (G:Gs K mg a d):FnOk P w K mg base CX0 1 a.Yard_story d.Yard_story ["self"] (sp_story w a):=by
 refine G.f_Yard_story.ok sc_Yard_story (λvs H Q E h=>?_) (λcdv A' outer s' H vs Q E hr h=>?_)
 · obtain ⟨y,q,S,rfl,_⟩:=h
   rfl
 · obtain ⟨y,q,S,rfl,Y,k⟩:=h
   refine ⟨_,(@pss_one _ _ _ (@ps_ret _ _ _ _ (pe_callTy call_list_of (by rfl) G.n_list bt_list (@pa_cons _ _ _ _ _ (pe_fld (pv 0) rfl) pa_nil (by rfl))))),?_⟩
   obtain ⟨ts,h1,h2⟩:=Y.hp
   exact ⟨_,rfl,fldE Y.ob G.cl_Yard G.na_Yard_happened yF_happened ⟨y.hp,ts,rfl,.inl (SqL.of h1),λl hl=>k l ts hl h2⟩⟩
theorem ok_yinit (G:Gs K mg a d):FnOk P w K mg base CX0 6 a.Yard__init d.Yard__init ["self","size","rounds","names","faults"] (sp_yinit w a):=by
 have c_rounds_with:FnOk P w K mg base CX0 1 _ _ _ _:=ok_rwith G
 have c_Store__init:FnOk P w K mg base CX0 1 _ _ _ _:=(ok_init G).imp λvs H Q E=>initT
 have c_Hand__init:FnOk P w K mg base CX0 4 _ _ _ _:=ok_hinit G
 have c_Heart__init:FnOk P w K mg base CX0 4 _ _ _ _:=ok_tinit G
 refine G.f_Yard__init.ok sc_Yard__init (λvs H Q E h=>?_) (λcdv A' outer s' H vs Q E hr h=>?_)
 · obtain ⟨y,dx,ft,s,R,n,fs,rfl,_⟩:=h
   rfl
 · obtain ⟨y,dx,ft,s,R,n,fs,rfl,hx,hf,k⟩:=h
   have hu:=hu_of hr
   refine ⟨_,(@pss_cons _ _ _ _ _ (ps_fld (pv 0) (pv 1) rfl)
     (@pss_cons _ _ _ _ _ (ps_fld (pv 0) (pe_call c_rounds_with (hr.mono (by decide)) (by rfl) G.m_rounds_with G.f_rounds_with.kp G.b_rounds_with .nil pass0 (@pa_cons _ _ _ _ _ (pv 2) (@pa_cons _ _ _ _ _ (pv 4) pa_nil (by rfl)) (by rfl))) rfl)
     (@pss_cons _ _ _ _ _ (ps_fld (pv 0) (pe_callTy call_tuple_of (by rfl) G.n_tuple bt_tuple (@pa_cons _ _ _ _ _ (pv 4) pa_nil (by rfl))) rfl)
     (@pss_cons _ _ _ _ _ (ps_fld (pv 0) (pe_make0 G.k_Store c_Store__init (hr.mono (by decide)) (by rfl) G.m_Store G.b_Store__init .nil pass0) rfl)
     (@pss_cons _ _ _ _ _ (ps_fld (pv 0) (pe_make G.k_Hand c_Hand__init (hr.mono (by decide)) (by rfl) G.m_Hand G.b_Hand__init .nil pass0 (@pa_cons _ _ _ _ _ (pe_fld (pv 0) rfl) (@pa_cons _ _ _ _ _ (pv 1) (@pa_cons _ _ _ _ _ (pv 2) (@pa_cons _ _ _ _ _ (pv 3) (@pa_cons _ _ _ _ _ (pv 4) pa_nil (by rfl)) (by rfl)) (by rfl)) (by rfl)) (by rfl))) rfl)
     (@pss_cons _ _ _ _ _ (ps_fld (pv 0) (pe_make G.k_Heart c_Heart__init (hr.mono (by decide)) (by rfl) G.m_Heart G.b_Heart__init .nil pass0 (@pa_cons _ _ _ _ _ (pe_fld (pv 0) rfl) (@pa_cons _ _ _ _ _ (pv 1) (@pa_cons _ _ _ _ _ (pv 2) (@pa_cons _ _ _ _ _ (pv 4) pa_nil (by rfl)) (by rfl)) (by rfl)) (by rfl))) rfl)
     (@pss_cons _ _ _ _ _ (ps_fld (pv 0) (pe_cmpR op_notIn_seq pe_str (pv 4) (by with_unfolding_all rfl)) rfl)
     (@pss_cons _ _ _ _ _ (ps_fld (pv 0) (pe_cmpR op_notIn_seq pe_str (pv 4) (by with_unfolding_all rfl)) rfl)
     (@pss_cons _ _ _ _ _ (ps_fld (pv 0) (pe_cmpR op_notIn_seq pe_str (pv 4) (by with_unfolding_all rfl)) rfl)
     (@pss_cons _ _ _ _ _ (ps_fld (pv 0) (@pe_lst _ _ _ _ (@pa_cons _ _ _ _ _ pe_str (@pa_cons _ _ _ _ _ pe_str pa_nil (by rfl)) (by rfl))) rfl)
     (@pss_cons _ _ _ _ _ (ps_fld (pv 0) (@pe_lst _ _ _ _ (@pa_cons _ _ _ _ _ pe_bl (@pa_cons _ _ _ _ _ pe_bl pa_nil (by rfl)) (by rfl))) rfl)
     (@pss_one _ _ _ (ps_fld (pv 0) (@pe_lst _ _ _ _ pa_nil) rfl))))))))))))),?_⟩
   refine ⟨_,rfl,_,rfl,y,a.Yard,dx,[],rfl,hx,G.cl_Yard,G.na_Yard_size,by decide,?_⟩
   have fy:ft≠y:=λz=>by rw [z,hx] at hf;cases hf
   refine ⟨_,rfl,_,rfl,R,ft,fs,rfl,by rw [upd_ne fy];exact hf,_,rfl,y,a.Yard,dx,_,rfl,upd_same,G.cl_Yard,G.na_Yard_rounds,by show 1 < 1000;decide,?_⟩
   rw [upd_upd]
   refine ⟨_,rfl,ft,_,rfl,.inr ⟨SqT.of (by rw [upd_ne fy];exact hf),?_⟩⟩
   refine ⟨_,rfl,y,a.Yard,dx,_,rfl,upd_same,G.cl_Yard,G.na_Yard_faults,by show 2 < 1000;decide,?_⟩
   rw [upd_upd]
   generalize hF3:putF "faults" (.ref ft) (putF "rounds" (.int (if fs.contains "round" then 1 else R)) (putF "size" (.int s) []))=F3
   have hl3:F3.length=3:=by rw [← hF3];rfl
   have kp3:Kp [y] H (upd H y (.ins a.Yard dx F3)):=Kp.one
   have hx3:upd H y (.ins a.Yard dx F3) y=some (.ins a.Yard dx F3):=upd_same
   have hf3:upd H y (.ins a.Yard dx F3) ft=some (.tup (fs.map V.str)):=by rw [upd_ne fy];exact hf
   generalize upd H y (.ins a.Yard dx F3)=H3 at kp3 hx3 hf3 ⊢
   have up:∀ {Hi:Hp} {F:List (Str × V)} {c:Addr} {o:HO},c≠y->Hi c=some o->upd Hi y (.ins a.Yard dx F) c=some o:=λn e=>by rw [upd_ne n];exact e
   have nn:∀ {Hi:Hp} {F:List (Str × V)} {c:Addr},Hi y=some (.ins a.Yard dx F)->Hi c=none->c≠y:=λe h z=>by rw [z,e] at h;cases h
   intro x dxs nx ndx nex
   refine ⟨x,dxs,rfl,upd_same,λsa H4 hsx fsa S4 kp4=>⟨rfl,?_⟩⟩
   have e4:=new_hand nx ndx kp4
   have fs4:∀ c,sa.own c->H3 c=none:=λc hc=>by
     by_cases z:c=x
     · rw [z];exact nx
     · exact (up1 (up1 (fsa c hc z)).2).2
   subst hsx
   refine ⟨_,rfl,y,a.Yard,dx,F3,rfl,e4 _ _ hx3,G.cl_Yard,G.na_Yard_shelf,by rw [hl3];decide,?_⟩
   clear kp4 nx ndx nex fsa
   have S5:StT w a.Store (upd H4 y (.ins a.Yard dx (putF "shelf" (.ref sa.x) F3))) sa Mem.zero λ_=>[]:=S4.keep (λc o hc e=>up (nn hx3 (fs4 c hc)) e) λb vs e=>up (λz=>by rw [z,e4 _ _ hx3] at e;cases e) e
   have kp5:Kp [y] H3 (upd H4 y (.ins a.Yard dx (putF "shelf" (.ref sa.x) F3))):=λc o n e=>up (λz=>n (List.mem_singleton.mpr z)) (e4 _ _ e)
   have hx5:upd H4 y (.ins a.Yard dx (putF "shelf" (.ref sa.x) F3)) y=some (.ins a.Yard dx (putF "shelf" (.ref sa.x) F3)):=upd_same
   have hf5:upd H4 y (.ins a.Yard dx (putF "shelf" (.ref sa.x) F3)) ft=some (.tup (fs.map V.str)):=up fy (e4 _ _ hf3)
   generalize upd H4 y (.ins a.Yard dx (putF "shelf" (.ref sa.x) F3))=H5 at S5 kp5 hx5 hf5 ⊢
   clear S4 e4
   refine ⟨_,rfl,fldE ⟨dx,hx5⟩ G.cl_Yard G.na_Yard_shelf (v:=.ref sa.x) (by rw [lookup_putF,if_pos rfl]) ⟨_,rfl,_,rfl,_,rfl,_,rfl,?_⟩⟩
   intro h dh nh ndh neh
   refine ⟨h,dh,sa.x,ft,s,R,n,fs,rfl,upd_same,?_,λz H6 hz g1 g2 g3 hn6 kp6=>⟨rfl,?_⟩⟩
   · rw [upd_ne (ne_of_none hf5 nh),upd_ne (ne_of_none hf5 ndh)];exact hf5
   have e6:=new_hand nh ndh kp6
   have fz:∀ c,z.own c->H5 c=none:=λc h2=>by
     rcases h2 with y | y | y | y
     · rw [y,hz];exact nh
     · rw [y];exact (up1 (up1 g1).2).2
     · rw [y];exact (up1 (up1 g2).2).2
     · rw [y];exact (up1 (up1 g3).2).2
   subst hz
   refine ⟨_,rfl,y,a.Yard,dx,_,rfl,e6 _ _ hx5,G.cl_Yard,G.na_Yard_hand,?_,?_⟩
   · rw [← hF3];show 4 < 1000;decide
   generalize hF7:putF "hand" (.ref z.h) (putF "shelf" (.ref sa.x) F3)=F7
   have S7:StT w a.Store (upd H6 y (.ins a.Yard dx F7)) sa Mem.zero λ_=>[]:=(S5.same e6).keep (λc o hc e=>up (nn hx3 (fs4 c hc)) e) λb vs e=>up (λz=>by rw [z,e6 _ _ hx5] at e;cases e) e
   have hn7:Hn a.Hand a.Ring (upd H6 y (.ins a.Yard dx F7)) z sa.x ⟨s,if fs.contains "round" then 1 else R,fs.contains "counter"⟩ n []:=hn6.keep λc o hc e=>up (nn hx5 (fz c hc)) e
   have kp7:Kp [y] H5 (upd H6 y (.ins a.Yard dx F7)):=λc o n e=>up (λz=>n (List.mem_singleton.mpr z)) (e6 _ _ e)
   have hx7:upd H6 y (.ins a.Yard dx F7) y=some (.ins a.Yard dx F7):=upd_same
   have hf7:upd H6 y (.ins a.Yard dx F7) ft=some (.tup (fs.map V.str)):=up fy (e6 _ _ hf5)
   generalize upd H6 y (.ins a.Yard dx F7)=H7 at S7 hn7 kp7 hx7 hf7 ⊢
   clear kp6 nh ndh neh g1 g2 g3 S5 hn6 e6
   refine ⟨_,rfl,fldE ⟨dx,hx7⟩ G.cl_Yard G.na_Yard_shelf (v:=.ref sa.x) (by rw [← hF7,lookup_putF,if_neg (by decide +kernel),lookup_putF,if_pos rfl]) ⟨_,rfl,_,rfl,_,rfl,?_⟩⟩
   intro h dh nh ndh neh
   refine ⟨h,dh,sa.x,ft,s,R,fs,rfl,upd_same,?_,λzt H8 hz g1 g2 g3 tn8 kp8=>⟨rfl,?_⟩⟩
   · rw [upd_ne (ne_of_none hf7 nh),upd_ne (ne_of_none hf7 ndh)];exact hf7
   have e8:=new_hand nh ndh kp8
   have fzt:∀ c,zt.own c->H7 c=none:=λc h2=>by
     rcases h2 with y | y | y | y
     · rw [y,hz];exact nh
     · rw [y];exact (up1 (up1 g1).2).2
     · rw [y];exact (up1 (up1 g2).2).2
     · rw [y];exact (up1 (up1 g3).2).2
   subst hz
   have dz:∀ c,z.own c->¬ zt.own c:=λc h1 h2=>by
     obtain ⟨o,e,_⟩:=hn7.there h1
     rw [fzt c h2] at e;cases e
   refine ⟨_,rfl,y,a.Yard,dx,_,rfl,e8 _ _ hx7,G.cl_Yard,G.na_Yard_heart,?_,?_⟩
   · rw [← hF7,← hF3];show 5 < 1000;decide
   have hf9:∀ F,upd H8 y (.ins a.Yard dx F) ft=some (.tup (fs.map V.str)):=λF=>up fy (e8 _ _ hf7)
   refine ⟨_,rfl,ft,_,rfl,.inr (SqT.of (hf9 _)),rfl,strs_flat fs,?_⟩
   refine ⟨_,rfl,y,a.Yard,dx,_,rfl,upd_same,G.cl_Yard,G.na_Yard_bell_fences,?_,?_⟩
   · rw [← hF7,← hF3];show 6 < 1000;decide
   rw [upd_upd]
   refine ⟨_,rfl,ft,_,rfl,.inr (SqT.of (hf9 _)),rfl,strs_flat fs,?_⟩
   refine ⟨_,rfl,y,a.Yard,dx,_,rfl,upd_same,G.cl_Yard,G.na_Yard_lie_fences,?_,?_⟩
   · rw [← hF7,← hF3];show 7 < 1000;decide
   rw [upd_upd]
   refine ⟨_,rfl,ft,_,rfl,.inr (SqT.of (hf9 _)),rfl,strs_flat fs,?_⟩
   refine ⟨_,rfl,y,a.Yard,dx,_,rfl,upd_same,G.cl_Yard,G.na_Yard_look_sees,?_,?_⟩
   · rw [← hF7,← hF3];show 8 < 1000;decide
   rw [upd_upd]
   simp only [if_true,inV_str]
   generalize hF9:putF "look_sees" (V.bl (!fs.contains "look")) (putF "lie_fences" (V.bl (!fs.contains "lie")) (putF "bell_fences" (V.bl (!fs.contains "bell")) (putF "heart" (V.ref zt.h) F7)))=F9
   have hl9:F9.length=9:=by rw [← hF9,← hF7,← hF3];rfl
   have S9:StT w a.Store (upd H8 y (.ins a.Yard dx F9)) sa Mem.zero λ_=>[]:=(S7.same e8).keep (λc o hc e=>up (nn hx3 (fs4 c hc)) e) λb vs e=>up (λz=>by rw [z,e8 _ _ hx7] at e;cases e) e
   have hn9:=(hn7.same e8).keep (H':=upd H8 y (.ins a.Yard dx F9)) λc o hc e=>up (nn hx5 (fz c hc)) e
   have tn9:=Tn.keep (H':=upd H8 y (.ins a.Yard dx F9)) tn8 λc o hc e=>up (nn hx7 (fzt c hc)) e
   have kp9:Kp [y] H7 (upd H8 y (.ins a.Yard dx F9)):=λc o n e=>up (λz=>n (List.mem_singleton.mpr z)) (e8 _ _ e)
   have hx9:upd H8 y (.ins a.Yard dx F9) y=some (.ins a.Yard dx F9):=upd_same
   generalize upd H8 y (.ins a.Yard dx F9)=H9 at S9 hn9 tn9 kp9 hx9 ⊢
   clear kp8 nh ndh neh g1 g2 g3 S7 hn7 e8 tn8 hf9
   have X9:X5 w a.Hand a.Heart a.Ring a.Store H9 z zt sa ⟨s,if fs.contains "round" then 1 else R,fs.contains "counter"⟩ n Mem.zero (λ_=>[]) [] []:=⟨hn9,tn9,S9,dz⟩
   clear S9 hn9 tn9
   have kpA:Kp [y] H H9:=kp3.trans (kp5.trans (kp7.trans kp9))
   have ow:∀ c,own5 z zt sa c->H3 c=none:=λc hc=>by
     rcases hc with hc | hc | hc
     · exact none_kp kp5 (fz c hc) λx mx=>by rw [List.mem_singleton.mp mx,hx5];exact λz=>by cases z
     · exact none_kp (kp5.trans kp7) (fzt c hc) λx mx=>by rw [List.mem_singleton.mp mx,hx7];exact λz=>by cases z
     · exact fs4 c hc
   have owH:∀ c,own5 z zt sa c->H c=none:=λc hc=>none_kp kp3 (ow c hc) λx mx=>by rw [List.mem_singleton.mp mx,hx3];exact λz=>by cases z
   have owy:¬ own5 z zt sa y:=λhc=>by have:=ow y hc;rw [hx3] at this;cases this
   clear kp3 kp5 kp7 kp9 fs4 fz fzt
   have stp:∀ {Hi:Hp} {Fi F':List (Str × V)} {l:Addr} {o:HO},Hi y=some (.ins a.Yard dx Fi)->Hi l=none->(∀ c u,c≠y->Hi c=some u->upd (upd Hi l o) y (.ins a.Yard dx F') c=some u)/\upd (upd Hi l o) y (.ins a.Yard dx F') l=some o/\upd (upd Hi l o) y (.ins a.Yard dx F') y=some (.ins a.Yard dx F'):=λ{Hi Fi F' l o} hy hl =>
     ⟨λc u n e=>up n (by rw [upd_ne (ne_of_none e hl)];exact e),up (nn hy hl) upd_same,upd_same⟩
   have kx:∀ {Hi Hj:Hp},(∀ c u,c≠y->Hi c=some u->Hj c=some u)->(∃ F,Hi y=some (.ins a.Yard dx F))->X5 w a.Hand a.Heart a.Ring a.Store Hi z zt sa ⟨s,if fs.contains "round" then 1 else R,fs.contains "counter"⟩ n Mem.zero (λ_=>[]) [] []->X5 w a.Hand a.Heart a.Ring a.Store Hj z zt sa ⟨s,if fs.contains "round" then 1 else R,fs.contains "counter"⟩ n Mem.zero (λ_=>[]) [] []:=λ{Hi Hj} kk ⟨F,hy⟩ X=>X.keep (λc o hc e=>kk c o (λy'=>owy (by rw [← y'];exact hc)) e) λb vs e=>kk b _ (λy'=>by rw [y',hy] at e;cases e) e
   refine ⟨l2,λsl hsl=>⟨_,rfl,y,a.Yard,dx,F9,rfl,(by rw [upd_ne (ne_of_none hx9 hsl)];exact hx9),G.cl_Yard,G.na_Yard_sleepers,by rw [hl9];decide,?_⟩⟩
   obtain ⟨a1,a2,a3⟩:=stp (F':=putF "sleepers" (.ref sl) F9) (o:=.lst [V.str "up",V.str "up"]) hx9 hsl
   generalize upd (upd H9 sl (.lst [V.str "up",V.str "up"])) y (.ins a.Yard dx (putF "sleepers" (.ref sl) F9))=H10 at a1 a2 a3 ⊢
   have X10:=kx a1 ⟨_,hx9⟩ X9
   refine ⟨l2,λqu hqu=>⟨_,rfl,y,a.Yard,dx,_,rfl,(by rw [upd_ne (ne_of_none a3 hqu)];exact a3),G.cl_Yard,G.na_Yard_quiet,?_,?_⟩⟩
   · rw [← hF9,← hF7,← hF3];show 10 < 1000;decide
   obtain ⟨b1,b2,b3⟩:=stp (F':=putF "quiet" (.ref qu) (putF "sleepers" (.ref sl) F9)) (o:=.lst [V.bl true,V.bl true]) a3 hqu
   generalize upd (upd H10 qu (.lst [V.bl true,V.bl true])) y (.ins a.Yard dx (putF "quiet" (.ref qu) (putF "sleepers" (.ref sl) F9)))=H11 at b1 b2 b3 ⊢
   have X11:=kx b1 ⟨_,a3⟩ X10
   have b4:=b1 _ _ (nn hx9 hsl) a2
   refine ⟨len0v,λhp hhp=>⟨_,rfl,y,a.Yard,dx,_,rfl,(by rw [upd_ne (ne_of_none b3 hhp)];exact b3),G.cl_Yard,G.na_Yard_happened,?_,?_⟩⟩
   · rw [← hF9,← hF7,← hF3];show 11 < 1000;decide
   obtain ⟨c1,c2,c3⟩:=stp (F':=putF "happened" (.ref hp) (putF "quiet" (.ref qu) (putF "sleepers" (.ref sl) F9))) (o:=.lst []) b3 hhp
   generalize upd (upd H11 hp (.lst [])) y (.ins a.Yard dx (putF "happened" (.ref hp) (putF "quiet" (.ref qu) (putF "sleepers" (.ref sl) F9))))=H12 at c1 c2 c3 ⊢
   have X12:=kx c1 ⟨_,b3⟩ X11
   have c4:=c1 _ _ (nn hx9 hsl) b4
   have c5:=c1 _ _ (nn a3 hqu) b2
   have n1:sl≠qu:=ne_of_none a2 hqu
   have n2:sl≠hp:=ne_of_none b4 hhp
   have n3:qu≠hp:=ne_of_none b2 hhp
   have kpB:Kp [y] H H12:=λc o n e=>c1 c o (λz=>n (List.mem_singleton.mpr z)) (b1 c o (λz=>n (List.mem_singleton.mpr z)) (a1 c o (λz=>n (List.mem_singleton.mpr z)) (kpA c o n e)))
   have nH:∀ {Hi:Hp} {c:Addr},Kp [y] H Hi->(∃ F,Hi y=some (.ins a.Yard dx F))->Hi c=none->H c=none:=λkk ⟨F,e⟩ h=>none_kp kk h λx mx=>by rw [List.mem_singleton.mp mx,e];exact λz=>by cases z
   have kp10:Kp [y] H H10:=λc o n e=>a1 c o (λz=>n (List.mem_singleton.mpr z)) (kpA c o n e)
   have kp11:Kp [y] H H11:=λc o n e=>b1 c o (λz=>n (List.mem_singleton.mpr z)) (kp10 c o n e)
   refine k ⟨y,ft,sa,z,zt,sl,qu,hp⟩ H12 rfl (λc hc ny=>?_) ⟨⟨dx,?_⟩,X12,c4,c5,⟨[],c2,rfl⟩,λ_ h=>(by cases h),λc hc h5=>?_,⟨n1,n2,n3⟩,owy⟩ kpB
   · rcases hc with y' | hc | y' | y' | y'
     · exact absurd y' ny
     · exact owH c hc
     · rw [y'];exact nH kpA ⟨_,hx9⟩ hsl
     · rw [y'];exact nH kp10 ⟨_,a3⟩ hqu
     · rw [y'];exact nH kp11 ⟨_,b3⟩ hhp
   · rw [c3,← hF9,← hF7,← hF3];rfl
   · rcases hc with y' | y' | y'
     · obtain ⟨o,e,_⟩:=X9.there h5
       rw [y',hsl] at e;cases e
     · obtain ⟨o,e,_⟩:=X10.there h5
       rw [y',hqu] at e;cases e
     · obtain ⟨o,e,_⟩:=X11.there h5
       rw [y',hhp] at e;cases e
end

def sp_same:Nat->Sp
 | 0=>λ_ _ _ _=>False
 | n+1=>λvs H Q _=>∃ (x y:V) (dd:PyData),vs=[x,y]/\DV H dd x/\DV H dd y/\LayD dd/\dd.depth <= n/\∀ H',Same H H'->Q (.bl true) H'
section
variable {K:PySem.W.Frag}
theorem kbb:PySem.W.kitOne K (.type "bool") (.type "bool")=some true:=by rfl
theorem kib:PySem.W.kitOne K (.type "int") (.type "bool")=some false:=by rfl
theorem kii:PySem.W.kitOne K (.type "int") (.type "int")=some true:=by rfl
theorem kis:PySem.W.kitOne K (.type "int") (.type "str")=some false:=by rfl
theorem ksb:PySem.W.kitOne K (.type "str") (.type "bool")=some false:=by rfl
theorem kss:PySem.W.kitOne K (.type "str") (.type "str")=some true:=by rfl
theorem ktb:PySem.W.kitOne K (.type "tuple") (.type "bool")=some false:=by rfl
theorem kti:PySem.W.kitOne K (.type "tuple") (.type "int")=some false:=by rfl
theorem kts:PySem.W.kitOne K (.type "tuple") (.type "str")=some false:=by rfl
theorem ktt:PySem.W.kitOne K (.type "tuple") (.type "tuple")=some true:=by rfl
theorem klb:PySem.W.kitOne K (.type "list") (.type "bool")=some false:=by rfl
theorem kli:PySem.W.kitOne K (.type "list") (.type "int")=some false:=by rfl
theorem kls:PySem.W.kitOne K (.type "list") (.type "str")=some false:=by rfl
theorem klt:PySem.W.kitOne K (.type "list") (.type "tuple")=some false:=by rfl
theorem kll:PySem.W.kitOne K (.type "list") (.type "list")=some true:=by rfl
end
theorem lay_at:∀ {ds:List PyData} {i:Nat} {e:PyData},PyData.canLayAll0 ds=true->ds[i]?=some e->e.canLay0=true/\e.depth <= PyData.depthAll ds
 | [],_,_,_,h=>by simp at h
 | d :: ds,0,e,hl,h=>by
   simp at h
   subst h
   have h':d.canLay0=true/\PyData.canLayAll0 ds=true:=by simpa [PyData.canLayAll0] using hl
   exact ⟨h'.1,by show d.depth <= max d.depth _;omega⟩
 | d :: ds,i+1,e,hl,h=>by
   have h':d.canLay0=true/\PyData.canLayAll0 ds=true:=by simpa [PyData.canLayAll0] using hl
   obtain ⟨a,b⟩:=lay_at (i:=i) (e:=e) h'.2 (by simpa using h)
   exact ⟨a,by show e.depth <= max d.depth (PyData.depthAll ds);omega⟩
section
variable {P:Program} {w:World} {K:PySem.W.Frag} {mg:Str->Option Value} {base:Heap} {a:Ad} {d:Fd}
theorem ok_same (G:Gs K mg a d):∀ n,FnOk P w K mg base CX0 n a.law_same d.law_same ["found","due"] (sp_same n)
 | 0=>⟨λ_ _ _ _ h=>h.elim,λ_ _ _ _ _ _ _ _ _ _ _ _ _ h=>h.elim⟩
 | n+1=>by
   have c_law_same:FnOk P w K mg base CX0 n _ _ _ _:=ok_same G n
   refine G.f_law_same.ok sc_law_same (λvs H Q E h=>?_) (λcdv A outer st H vs Q E hr h=>?_)
   · obtain ⟨x,y,dd,rfl,_⟩:=h
     rfl
   · obtain ⟨x,y,dd,rfl,hx,hy,lay,hd,k⟩:=h
     refine ⟨_,(@pss_cons _ _ _ _ _ (ps_if (pt_cmpR op_isN (pv 1) pe_non (nomark _)) (@pss_one _ _ _ (@ps_ret _ _ _ _ (pe_cmpR op_isN (pv 0) pe_non (nomark _)))) pss_nil)
     (@pss_cons _ _ _ _ _ (ps_if (pt_val (pe_callB call_isinst (by rfl) G.n_isinstance bt_isinstance (@pa_cons _ _ _ _ _ (pv 1) (@pa_cons _ _ _ _ _ (pe_bltn (v:=.ty "bool") (by rfl) G.n_bool bt_bool rfl) pa_nil (by rfl)) (by rfl)))) (@pss_one _ _ _ (@ps_ret _ _ _ _ (pe_and (pe_callB call_isinst (by rfl) G.n_isinstance bt_isinstance (@pa_cons _ _ _ _ _ (pv 0) (@pa_cons _ _ _ _ _ (pe_bltn (v:=.ty "bool") (by rfl) G.n_bool bt_bool rfl) pa_nil (by rfl)) (by rfl))) (pe_one (pe_cmpR (op_eqD hr.units) (pv 0) (pv 1) (nomark _)))))) pss_nil)
     (@pss_cons _ _ _ _ _ (ps_if (pt_val (pe_callB call_isinst (by rfl) G.n_isinstance bt_isinstance (@pa_cons _ _ _ _ _ (pv 1) (@pa_cons _ _ _ _ _ (pe_bltn (v:=.ty "str") (by rfl) G.n_str bt_str rfl) pa_nil (by rfl)) (by rfl)))) (@pss_one _ _ _ (@ps_ret _ _ _ _ (pe_and (pe_callB call_isinst (by rfl) G.n_isinstance bt_isinstance (@pa_cons _ _ _ _ _ (pv 0) (@pa_cons _ _ _ _ _ (pe_bltn (v:=.ty "str") (by rfl) G.n_str bt_str rfl) pa_nil (by rfl)) (by rfl))) (pe_one (pe_cmpR (op_eqD hr.units) (pv 0) (pv 1) (nomark _)))))) pss_nil)
     (@pss_cons _ _ _ _ _ (ps_if (pt_val (pe_callB call_isinst (by rfl) G.n_isinstance bt_isinstance (@pa_cons _ _ _ _ _ (pv 1) (@pa_cons _ _ _ _ _ (pe_bltn (v:=.ty "int") (by rfl) G.n_int bt_int rfl) pa_nil (by rfl)) (by rfl)))) (@pss_one _ _ _ (@ps_ret _ _ _ _ (pe_and (pe_callB call_isinst (by rfl) G.n_isinstance bt_isinstance (@pa_cons _ _ _ _ _ (pv 0) (@pa_cons _ _ _ _ _ (pe_bltn (v:=.ty "int") (by rfl) G.n_int bt_int rfl) pa_nil (by rfl)) (by rfl))) (pe_and (pe_not (pe_callB call_isinst (by rfl) G.n_isinstance bt_isinstance (@pa_cons _ _ _ _ _ (pv 0) (@pa_cons _ _ _ _ _ (pe_bltn (v:=.ty "bool") (by rfl) G.n_bool bt_bool rfl) pa_nil (by rfl)) (by rfl)))) (pe_one (pe_cmpR (op_eqD hr.units) (pv 0) (pv 1) (nomark _))))))) pss_nil)
     (@pss_cons _ _ _ _ _ (ps_if (pt_val (pe_callB call_isinst (by rfl) G.n_isinstance bt_isinstance (@pa_cons _ _ _ _ _ (pv 1) (@pa_cons _ _ _ _ _ (pe_bltn (v:=.ty "tuple") (by rfl) G.n_tuple bt_tuple rfl) pa_nil (by rfl)) (by rfl)))) (@pss_one _ _ _ (ps_if (pt_not (pt_val (pe_callB call_isinst (by rfl) G.n_isinstance bt_isinstance (@pa_cons _ _ _ _ _ (pv 0) (@pa_cons _ _ _ _ _ (pe_bltn (v:=.ty "tuple") (by rfl) G.n_tuple bt_tuple rfl) pa_nil (by rfl)) (by rfl))))) (@pss_one _ _ _ (@ps_ret _ _ _ _ pe_bl)) pss_nil)) (@pss_one _ _ _ (ps_if (pt_not (pt_val (pe_callB call_isinst (by rfl) G.n_isinstance bt_isinstance (@pa_cons _ _ _ _ _ (pv 0) (@pa_cons _ _ _ _ _ (pe_bltn (v:=.ty "list") (by rfl) G.n_list bt_list rfl) pa_nil (by rfl)) (by rfl))))) (@pss_one _ _ _ (@ps_ret _ _ _ _ pe_bl)) pss_nil)))
     (@pss_cons _ _ _ _ _ (ps_if (pt_cmpR op_ne (pe_callB call_len_b (by rfl) G.n_len bt_len (@pa_cons _ _ _ _ _ (pv 0) pa_nil (by rfl))) (pe_callB call_len_b (by rfl) G.n_len bt_len (@pa_cons _ _ _ _ _ (pv 1) pa_nil (by rfl))) (nomark _)) (@pss_one _ _ _ (@ps_ret _ _ _ _ pe_bl)) pss_nil)
     (@pss_cons _ _ _ _ _ (ps_for PassesOwn.never rfl (pi_range1 (by rfl) G.n_range (@pa_cons _ _ _ _ _ (pe_callB call_len_b (by rfl) G.n_len bt_len (@pa_cons _ _ _ _ _ (pv 1) pa_nil (by rfl))) pa_nil (by rfl))) (pg_name (i:=2) sc_law_same.nd rfl (Or.inl rfl)) (@pss_one _ _ _ (ps_if (pt_not (pt_val (pe_call c_law_same hr (by rfl) G.m_law_same G.f_law_same.kp G.b_law_same .nil pass0 (@pa_cons _ _ _ _ _ (@pe_ix _ _ _ _ _ _ _ ix_any (pv 0) (pv 2) (λ_ _=>rfl)) (@pa_cons _ _ _ _ _ (@pe_ix _ _ _ _ _ _ _ ix_any (pv 1) (pv 2) (λ_ _=>rfl)) pa_nil (by rfl)) (by rfl))))) (@pss_one _ _ _ (@ps_ret _ _ _ _ pe_bl)) pss_nil)))
     (@pss_one _ _ _ (@ps_ret _ _ _ _ pe_bl))))))))),?_⟩
     cases dd with
     | none =>
       cases (show x=.non from hx)
       cases (show y=.non from hy)
       exact ⟨_,rfl,rfl,_,rfl,iteDT rfl ⟨_,rfl,rfl,k _ (Same.refl _)⟩⟩
     | bool b =>
       cases (show x=.bl b from hx)
       cases (show y=.bl b from hy)
       refine ⟨_,rfl,rfl,_,rfl,iteDF (by intro z;cases z) ?_⟩
       refine ⟨_,rfl,_,_,_,_,rfl,.bl b,kbb,_,rfl,iteT ?_⟩
       refine ⟨_,rfl,_,_,_,_,rfl,.bl b,kbb,_,rfl,iteT ⟨_,rfl,_,rfl,.bool b,.bool b,rfl,rfl,lay,lay,?_⟩⟩
       simp only [Bool.false_eq_true,if_false]
       rw [eqv_refl _ lay.1]
       exact k _ (Same.refl _)
     | str t =>
       cases (show x=.str t from hx)
       cases (show y=.str t from hy)
       refine ⟨_,rfl,rfl,_,rfl,iteDF (by intro z;cases z) ?_⟩
       refine ⟨_,rfl,_,_,_,_,rfl,.str t,ksb,_,rfl,iteF ?_⟩
       refine ⟨_,rfl,_,_,_,_,rfl,.str t,kss,_,rfl,iteT ?_⟩
       refine ⟨_,rfl,_,_,_,_,rfl,.str t,kss,_,rfl,iteT ⟨_,rfl,_,rfl,.str t,.str t,rfl,rfl,lay,lay,?_⟩⟩
       simp only [Bool.false_eq_true,if_false]
       rw [eqv_refl _ lay.1]
       exact k _ (Same.refl _)
     | int i =>
       cases (show x=.int i from hx)
       cases (show y=.int i from hy)
       refine ⟨_,rfl,rfl,_,rfl,iteDF (by intro z;cases z) ?_⟩
       refine ⟨_,rfl,_,_,_,_,rfl,.int i,kib,_,rfl,iteF ?_⟩
       refine ⟨_,rfl,_,_,_,_,rfl,.int i,kis,_,rfl,iteF ?_⟩
       refine ⟨_,rfl,_,_,_,_,rfl,.int i,kii,_,rfl,iteT ?_⟩
       refine ⟨_,rfl,_,_,_,_,rfl,.int i,kii,_,rfl,iteT ⟨_,rfl,_,_,_,_,rfl,.int i,kib,_,rfl,_,rfl,iteT ⟨_,rfl,_,rfl,.int i,.int i,rfl,rfl,lay,lay,?_⟩⟩⟩
       simp only [Bool.false_eq_true,if_false]
       rw [eqv_refl _ lay.1]
       exact k _ (Same.refl _)
     | dict _=>exact hx.elim
     | list ds =>
       obtain ⟨xa,xs,rfl,hxa,dxs⟩:=hx
       obtain ⟨ya,ys,rfl,hya,dys⟩:=hy
       have lx:=DVs.length dxs
       have ly:=DVs.length dys
       have hd':PyData.depthAll ds+1 <= n:=hd
       have hl':PyData.canLayAll0 ds=true:=lay.1
       have hl16:PyData.depthAll ds+1 <= 16:=lay.2
       have hsl:(sizeLine:Int) < 2 ^ 62:=by decide
       cases n with
       | zero=>exact absurd hd' (by omega)
       | succ m =>
         refine ⟨_,rfl,rfl,_,rfl,iteDF (by intro z;cases z) ?_⟩
         refine ⟨_,rfl,_,_,_,_,rfl,.lst hya,klb,_,rfl,iteF ?_⟩
         refine ⟨_,rfl,_,_,_,_,rfl,.lst hya,kls,_,rfl,iteF ?_⟩
         refine ⟨_,rfl,_,_,_,_,rfl,.lst hya,kli,_,rfl,iteF ?_⟩
         refine ⟨_,rfl,_,_,_,_,rfl,.lst hya,klt,_,rfl,iteF ?_⟩
         refine ⟨_,rfl,_,_,_,_,rfl,.lst hxa,kll,_,rfl,iteF ?_⟩
         refine ⟨_,rfl,xa,xs,rfl,.inl (SqL.of hxa),λ_=>⟨_,rfl,ya,ys,rfl,.inl (SqL.of hya),λhz=>⟨rfl,_,rfl,iteNS (congrArg V.int (by rw [lx,ly])) ?_⟩⟩⟩
         refine ⟨_,rfl,ya,ys,rfl,.inl (SqL.of hya),λhz2=>⟨_,rfl,by omega,by omega,?_⟩⟩
         rw [Int.toNat_natCast]
         refine for_range (n:=ys.length) (λi σ H'=>(∃ v2,σ=[some (.ref xa),some (.ref ya),v2])/\Same H H') ⟨⟨_,rfl⟩,Same.refl _⟩ ?_ ?_
         · rintro i σ H2 hi ⟨⟨v2,rfl⟩,e2⟩
           have gx:=List.getElem?_eq_getElem (show i < xs.length by omega)
           have gy:=List.getElem?_eq_getElem hi
           obtain ⟨d1,g1,q1⟩:=DVs.get dxs gx
           obtain ⟨d2,g2,q2⟩:=DVs.get dys gy
           rw [g1] at g2
           cases g2
           obtain ⟨la,lb⟩:=lay_at hl' g1
           refine ⟨_,rfl,_,rfl,ix_any_of (.inl (SqL.of (e2 _ _ hxa))) (by rw [Int.zero_add];exact atI_at gx) ?_⟩
           refine ⟨_,rfl,_,rfl,ix_any_of (.inl (SqL.of (e2 _ _ hya))) (by rw [Int.zero_add];exact atI_at gy) ?_⟩
           exact ⟨_,_,d1,rfl,DV.mono (λb vs e=>e2 b _ e) (λb vs e=>e2 b _ e) _ _ q1,DV.mono (λb vs e=>e2 b _ e) (λb vs e=>e2 b _ e) _ _ q2,⟨la,by omega⟩,by omega,λH4 e4=>⟨_,rfl,iteF ⟨⟨_,rfl⟩,e2.trans e4⟩⟩⟩
         · rintro σ H2 ⟨⟨v2,rfl⟩,e2⟩
           exact k _ e2
     | tuple ds =>
       obtain ⟨xa,xs,rfl,hxa,dxs⟩:=hx
       obtain ⟨ya,ys,rfl,hya,dys⟩:=hy
       have lx:=DVs.length dxs
       have ly:=DVs.length dys
       have hd':PyData.depthAll ds+1 <= n:=hd
       have hl':PyData.canLayAll0 ds=true:=lay.1
       have hl16:PyData.depthAll ds+1 <= 16:=lay.2
       have hsl:(sizeLine:Int) < 2 ^ 62:=by decide
       cases n with
       | zero=>exact absurd hd' (by omega)
       | succ m =>
         refine ⟨_,rfl,rfl,_,rfl,iteDF (by intro z;cases z) ?_⟩
         refine ⟨_,rfl,_,_,_,_,rfl,.tup hya,ktb,_,rfl,iteF ?_⟩
         refine ⟨_,rfl,_,_,_,_,rfl,.tup hya,kts,_,rfl,iteF ?_⟩
         refine ⟨_,rfl,_,_,_,_,rfl,.tup hya,kti,_,rfl,iteF ?_⟩
         refine ⟨_,rfl,_,_,_,_,rfl,.tup hya,ktt,_,rfl,iteT ?_⟩
         refine ⟨_,rfl,_,_,_,_,rfl,.tup hxa,ktt,_,rfl,iteF ?_⟩
         refine ⟨_,rfl,xa,xs,rfl,.inr (SqT.of hxa),λ_=>⟨_,rfl,ya,ys,rfl,.inr (SqT.of hya),λhz=>⟨rfl,_,rfl,iteNS (congrArg V.int (by rw [lx,ly])) ?_⟩⟩⟩
         refine ⟨_,rfl,ya,ys,rfl,.inr (SqT.of hya),λhz2=>⟨_,rfl,by omega,by omega,?_⟩⟩
         rw [Int.toNat_natCast]
         refine for_range (n:=ys.length) (λi σ H'=>(∃ v2,σ=[some (.ref xa),some (.ref ya),v2])/\Same H H') ⟨⟨_,rfl⟩,Same.refl _⟩ ?_ ?_
         · rintro i σ H2 hi ⟨⟨v2,rfl⟩,e2⟩
           have gx:=List.getElem?_eq_getElem (show i < xs.length by omega)
           have gy:=List.getElem?_eq_getElem hi
           obtain ⟨d1,g1,q1⟩:=DVs.get dxs gx
           obtain ⟨d2,g2,q2⟩:=DVs.get dys gy
           rw [g1] at g2
           cases g2
           obtain ⟨la,lb⟩:=lay_at hl' g1
           refine ⟨_,rfl,_,rfl,ix_any_of (.inr (SqT.of (e2 _ _ hxa))) (by rw [Int.zero_add];exact atI_at gx) ?_⟩
           refine ⟨_,rfl,_,rfl,ix_any_of (.inr (SqT.of (e2 _ _ hya))) (by rw [Int.zero_add];exact atI_at gy) ?_⟩
           exact ⟨_,_,d1,rfl,DV.mono (λb vs e=>e2 b _ e) (λb vs e=>e2 b _ e) _ _ q1,DV.mono (λb vs e=>e2 b _ e) (λb vs e=>e2 b _ e) _ _ q2,⟨la,by omega⟩,by omega,λH4 e4=>⟨_,rfl,iteF ⟨⟨_,rfl⟩,e2.trans e4⟩⟩⟩
         · rintro σ H2 ⟨⟨v2,rfl⟩,e2⟩
           exact k _ e2
end

def cellAt (ns:List Int) (k:Nat):Int:=ns.getD k 0
def sp_cellat (K:PySem.W.Frag):Sp:=λvs H Q _=>∃ (b:Addr) (ns:List Int) (k:Nat),vs=[.ref b,.int k]/\SqL K H b (ns.map V.int)/\Q (.int (cellAt ns k)) H
structure MkOk (s R n:Int) (fs:List Str):Prop where
 s1:1 <= s
 s8:s <= 8
 R2:2 <= R
 R4:R <= 4
 n1:1 <= n
 n9:n <= 9
 fl:fs.length <= 5
def sp_make:Sp:=λvs H Q _=>∃ c:Int,vs=[.int c]/\∀ (t ft:Addr) (s R n:Int) (fs:List Str) (H':Hp),MkOk s R n fs->Same H H'->H t=none->H' t=some (.tup [.int s,.int R,.int n,.ref ft])->H' ft=some (.tup (fs.map V.str))->Q (.ref t) H'
section
variable {P:Program} {w:World} {K:PySem.W.Frag} {mg:Str->Option Value} {base:Heap} {a:Ad} {d:Fd}
theorem ok_cellat (G:Gs K mg a d):FnOk P w K mg base CX0 1 a.law_cell_at d.law_cell_at ["script","k"] (sp_cellat K):=by
 refine G.f_law_cell_at.ok sc_law_cell_at (λvs H Q E h=>?_) (λcdv A' outer s' H vs Q E hr h=>?_)
 · obtain ⟨b,ns,k,rfl,_⟩:=h
   rfl
 · obtain ⟨b,ns,k,rfl,hS,q⟩:=h
   refine ⟨_,(@pss_cons _ _ _ _ _ (ps_if (pt_cmpR op_lt (pv 1) (pe_callB call_len_seq (by rfl) G.n_len bt_len (@pa_cons _ _ _ _ _ (pv 0) pa_nil (by rfl))) (nomark _)) (@pss_one _ _ _ (@ps_ret _ _ _ _ (@pe_ix _ _ _ _ _ _ _ ix_list (pv 0) (pv 1) (λ_ _=>rfl)))) pss_nil)
     (@pss_one _ _ _ (@ps_ret _ _ _ _ pe_int))),?_⟩
   refine ⟨_,rfl,_,rfl,b,_,rfl,.inl hS,_,_,rfl,rfl,_,rfl,?_⟩
   by_cases h:k < ns.length
   · refine iteC (decide_eq_true (by rw [List.length_map];omega)) ?_
     refine ⟨_,rfl,_,rfl,b,_,_,_,rfl,rfl,hS,atI_at (j:=k) (v:=.int (cellAt ns k)) ?_,q⟩
     unfold cellAt
     rw [List.getElem?_map,List.getElem?_eq_getElem h,List.getD_eq_getElem?_getD,List.getElem?_eq_getElem h];rfl
   · refine iteN (by rw [decide_eq_true_eq,List.length_map];omega) ?_
     have:cellAt ns k=0:=by unfold cellAt;rw [List.getD_eq_getElem?_getD,List.getElem?_eq_none (by omega)];rfl
     rw [this] at q
     exact q
theorem ok_make (G:Gs K mg a d):FnOk P w K mg base CX0 1 a.law_make d.law_make ["cell"] sp_make:=by
 refine G.f_law_make.ok sc_law_make (λvs H Q E h=>?_) (λcdv A' outer s' H vs Q E hr h=>?_)
 · obtain ⟨c,rfl,_⟩:=h
   rfl
 · obtain ⟨c,rfl,k⟩:=h
   refine ⟨_,(@pss_cons _ _ _ _ _ (@ps_set _ _ 1 _ _ _ _ sc_law_make.nd rfl (Or.inl rfl) (@pe_op _ _ _ _ _ _ _ _ op_mod (pv 0) (@pe_op _ _ _ _ _ _ _ _ op_pow pe_int pe_int)) (by rfl) (by first | exact .inl rfl | exact .inr rfl | assumption))
     (@pss_cons _ _ _ _ _ (@ps_set _ _ 2 _ _ _ _ sc_law_make.nd rfl (Or.inl rfl) (@pe_op _ _ _ _ _ _ _ _ op_add pe_int (@pe_op _ _ _ _ _ _ _ _ op_mod (pv 1) pe_int)) (by rfl) (by first | exact .inl rfl | exact .inr rfl | assumption))
     (@pss_cut _ _ _ _ _ (ps_if (pt_cmpR op_eq (@pe_op _ _ _ _ _ _ _ _ op_mod (@pe_op _ _ _ _ _ _ _ _ op_fdivB (pv 1) pe_int) pe_int) pe_int (nomark _)) (@pss_one _ _ _ (@ps_set _ _ 2 _ _ _ _ sc_law_make.nd rfl (Or.inl rfl) (@pe_op _ _ _ _ _ _ _ _ op_add pe_int (@pe_op _ _ _ _ _ _ _ _ op_mod (pv 1) pe_int)) (by rfl) (by first | exact .inl rfl | exact .inr rfl | assumption))) pss_nil)
     (@pss_cons _ _ _ _ _ (@ps_set _ _ 3 _ _ _ _ sc_law_make.nd rfl (Or.inl rfl) (@pe_lst _ _ _ _ pa_nil) (by rfl) (by first | exact .inl rfl | exact .inr rfl | assumption))
     (@pss_cons _ _ _ _ _ (@ps_set _ _ 4 _ _ _ _ sc_law_make.nd rfl (Or.inl rfl) (@pe_op _ _ _ _ _ _ _ _ op_fdivB (pv 1) pe_int) (by rfl) (by first | exact .inl rfl | exact .inr rfl | assumption))
     (@pss_cons _ _ _ _ _ (ps_for PassesOwn.never rfl (pi_list (@pe_lst _ _ _ _ (@pa_cons _ _ _ _ _ pe_str (@pa_cons _ _ _ _ _ pe_str (@pa_cons _ _ _ _ _ pe_str (@pa_cons _ _ _ _ _ pe_str (@pa_cons _ _ _ _ _ pe_str pa_nil (by rfl)) (by rfl)) (by rfl)) (by rfl)) (by rfl)))) (pg_name (i:=5) sc_law_make.nd rfl (Or.inl rfl)) (@pss_cut _ _ _ _ _ (ps_if (pt_cmpR op_eq (@pe_op _ _ _ _ _ _ _ _ op_mod (pv 4) pe_int) pe_int (nomark _)) (@pss_one _ _ _ (@ps_expr _ _ _ _ (@pe_bm _ _ _ _ _ _ _ _ _ _ _ _ PySem.F.plainAttrs_list PySem.F.slot_list_append PySem.F.type_list_append mt_append (pv 3) (@pa_cons _ _ _ _ _ (pv 5) pa_nil (by rfl)) (by rfl) (by rfl) (by rfl) (by rfl) (by rfl)) (by rfl))) pss_nil)
     (@pss_one _ _ _ (@ps_set _ _ 4 _ _ _ _ sc_law_make.nd rfl (Or.inl rfl) (@pe_op _ _ _ _ _ _ _ _ op_fdivB (pv 4) pe_int) (by rfl) (by first | exact .inl rfl | exact .inr rfl | assumption)))))
     (@pss_one _ _ _ (@ps_ret _ _ _ _ (@pe_tup _ _ _ _ _ (@pa_cons _ _ _ _ _ (pv 2) (@pa_cons _ _ _ _ _ (@pe_op _ _ _ _ _ _ _ _ op_add pe_int (@pe_op _ _ _ _ _ _ _ _ op_mod (@pe_op _ _ _ _ _ _ _ _ op_fdivB (pv 1) pe_int) pe_int)) (@pa_cons _ _ _ _ _ (@pe_op _ _ _ _ _ _ _ _ op_add pe_int (@pe_op _ _ _ _ _ _ _ _ op_mod (@pe_op _ _ _ _ _ _ _ _ op_fdivB (pv 1) pe_int) pe_int)) (@pa_cons _ _ _ _ _ (pe_callTy call_tuple_of (by rfl) G.n_tuple bt_tuple (@pa_cons _ _ _ _ _ (pv 3) pa_nil (by rfl))) pa_nil (by rfl)) (by rfl)) (by rfl)) (by rfl))))))))))),?_⟩
   have e12:(10:Int) ^ (12:Int).toNat=1000000000000:=by decide
   refine ⟨_,rfl,_,_,rfl,rfl,⟨by decide,by decide,by decide⟩,_,_,rfl,rfl,by show (0:Int) < 10 ^ (12:Int).toNat;decide,?_⟩
   have d0:=Int.emod_nonneg c (show (10 ^ (12:Int).toNat:Int)≠0 by decide)
   have d1:=Int.emod_lt_of_pos c (show (0:Int) < 10 ^ (12:Int).toNat by decide)
   rw [e12] at d0 d1
   obtain ⟨dr,hdr⟩:∃ dr,dr=c % 10 ^ (12:Int).toNat:=⟨_,rfl⟩
   have m8:=Int.emod_nonneg dr (show (8:Int)≠0 by decide)
   have m8':=Int.emod_lt_of_pos dr (show (0:Int) < 8 by decide)
   have m3:=Int.emod_nonneg dr (show (3:Int)≠0 by decide)
   have m3':=Int.emod_lt_of_pos dr (show (0:Int) < 3 by decide)
   refine ⟨_,rfl,_,_,rfl,rfl,(show (0:Int) < 8 from by decide),_,_,rfl,rfl,?_⟩
   refine ⟨λσ' H'=>H'=H/\∃ s,σ'=[some (.int c),some (.int dr),some (.int s),none,none,none]/\1 <= s/\s <= 8,?_,?_⟩
   · refine ⟨_,rfl,_,_,rfl,rfl,⟨by decide,by decide⟩,_,_,rfl,rfl,(show (0:Int) < 2 from by decide),rfl,_,rfl,?_⟩
     refine ite2 (λ_=>?_) (λ_=>?_)
     · exact ⟨_,rfl,_,_,rfl,rfl,(show (0:Int) < 3 from by decide),_,_,rfl,rfl,rfl,1+dr % 3,by rw [hdr];rfl,by omega,by omega⟩
     · exact ⟨rfl,1+dr % 8,by rw [hdr];rfl,by omega,by omega⟩
   · rintro σ' H' ⟨rfl,s,rfl,s1,s8⟩
     refine ⟨len0v,λfl hfl=>?_⟩
     refine ⟨_,rfl,_,_,rfl,rfl,⟨by decide,by decide⟩,?_⟩
     refine ⟨by show 5 <= sizeLine;decide,λlw hlw=>⟨lw,rfl,⟨_,SqL.of upd_same⟩,?_⟩⟩
     have e1:=(same_new (o:=.lst []) hfl).trans (same_new (o:=.lst [V.str "bell",V.str "counter",V.str "lie",V.str "look",V.str "round"]) hlw)
     have v1:upd (upd H' fl (.lst [])) lw (.lst [V.str "bell",V.str "counter",V.str "lie",V.str "look",V.str "round"]) fl=some (.lst (([]:List Str).map V.str)):=by rw [upd_ne (ne_of_none upd_same hlw)];exact upd_same
     have vl:upd (upd H' fl (.lst [])) lw (.lst [V.str "bell",V.str "counter",V.str "lie",V.str "look",V.str "round"]) lw=some (.lst [V.str "bell",V.str "counter",V.str "lie",V.str "look",V.str "round"]):=upd_same
     generalize upd (upd H' fl (.lst [])) lw (.lst [V.str "bell",V.str "counter",V.str "lie",V.str "look",V.str "round"])=H1 at e1 v1 vl ⊢
     have nfl:lw≠fl:=λz=>by rw [z,v1] at vl;cases vl
     refine for_list (K:=K) (a:=lw) (xs:=[V.str "bell",V.str "counter",V.str "lie",V.str "look",V.str "round"]) (λi σ H2=>∃ (fs:List Str) (b:Int),(∃ v5,σ=[some (.int c),some (.int dr),some (.int s),some (.ref fl),some (.int b),v5])/\fs.length <= i/\H2 fl=some (.lst (fs.map V.str))/\(∀ c o,c≠fl->H1 c=some o->H2 c=some o))
       ⟨[],_,⟨_,rfl⟩,Nat.le_refl _,v1,λ_ _ _ e=>e⟩ (λ_ _ _ _ ⟨_,_,_,_,_,z⟩=>SqL.of (z _ _ nfl vl)) ?_ ?_
     · rintro i x σ H2 hi ⟨fs,b,⟨v5,rfl⟩,fll,v2,k2⟩
       have hi5:i < 5:=(List.getElem?_eq_some_iff.mp hi).1
       obtain ⟨wd,rfl⟩:∃ wd,x=.str wd:=by
         match i,hi with
         | 0,hi=>cases hi;exact ⟨_,rfl⟩
         | 1,hi=>cases hi;exact ⟨_,rfl⟩
         | 2,hi=>cases hi;exact ⟨_,rfl⟩
         | 3,hi=>cases hi;exact ⟨_,rfl⟩
         | 4,hi=>cases hi;exact ⟨_,rfl⟩
         | _+5,hi=>cases hi
       refine ⟨λσ' H3=>∃ (fs:List Str),σ'=[some (.int c),some (.int dr),some (.int s),some (.ref fl),some (.int b),some (.str wd)]/\fs.length <= i+1/\H3 fl=some (.lst (fs.map V.str))/\(∀ c o,c≠fl->H1 c=some o->H3 c=some o),?_,?_⟩
       · refine ⟨_,rfl,_,_,rfl,rfl,(show (0:Int) < 2 from by decide),rfl,_,rfl,?_⟩
         refine ite2 (λ_=>?_) (λ_=>?_)
         · refine ⟨_,rfl,.inl ⟨rfl,_,SqL.of v2⟩,_,rfl,fl,_,_,rfl,rfl,v2,Nat.lt_of_lt_of_le (show _ < 1000 by rw [List.length_map];omega) (by decide),fs++[wd],rfl,by rw [List.length_append];show _+1 <= _;omega,by rw [upd_same,List.map_append];rfl,λc o n e=>by rw [upd_ne n];exact k2 c o n e⟩
         · exact ⟨fs,rfl,by omega,v2,k2⟩
       · rintro σ' H3 ⟨fs',rfl,fl3,v3,k3⟩
         exact ⟨_,rfl,_,_,rfl,rfl,⟨by decide,by decide⟩,fs',_,⟨_,rfl⟩,fl3,v3,k3⟩
     · rintro σ H2 ⟨fs,b,⟨v5,rfl⟩,fll,v2,k2⟩
       have a0:=Int.emod_nonneg (dr / 16) (show (3:Int)≠0 by decide)
       have a1:=Int.emod_lt_of_pos (dr / 16) (show (0:Int) < 3 by decide)
       have b0:=Int.emod_nonneg (dr / 48) (show (9:Int)≠0 by decide)
       have b1:=Int.emod_lt_of_pos (dr / 48) (show (0:Int) < 9 by decide)
       refine ⟨_,rfl,_,rfl,_,_,rfl,rfl,⟨by decide,by decide⟩,_,_,rfl,rfl,(show (0:Int) < 3 from by decide),_,_,rfl,rfl,_,rfl,_,_,rfl,rfl,⟨by decide,by decide⟩,_,_,rfl,rfl,(show (0:Int) < 9 from by decide),_,_,rfl,rfl,?_⟩
       refine ⟨_,rfl,fl,_,rfl,.inl ⟨SqL.of v2,λft hft=>⟨by show 4 <= sizeLine;decide,λt ht=>?_⟩⟩⟩
       have e2:Same H' H2:=λc o e=>k2 c o (λz=>ne_of_none e hfl z) (e1 _ _ e)
       have e3:=(same_new (o:=.tup (fs.map V.str)) hft)
       have e4:=same_new (o:=.tup [V.int s,V.int (2+dr / 16 % 3),V.int (1+dr / 48 % 9),V.ref ft]) ht
       exact k t ft s _ _ fs _ ⟨s1,s8,by omega,by omega,by omega,by omega,fll⟩ ((e2.trans e3).trans e4) (none_back (e2.trans e3) ht) upd_same (e4 _ _ upd_same)
end

def sp_hwaits (w:World) (CH CR CS:Addr):Sp:=λvs H Q _=>∃ (z:HA) (sa:SA) (p:RP) (n:Int) (aw:List Int) (m:Mem) (rs:Bool->List Wr),vs=[.ref z.h]/\Hn CH CR H z sa.x p n aw/\StT w CS H sa m rs/\p.Ok/\Q (.bl (decide (aheadT p m (rs false) .answered .handed≠0))) H
def sp_twaits (w:World) (CT CR CS:Addr):Sp:=λvs H Q _=>∃ (z:TA') (sa:SA) (p:RP) (ts:List Int) (m:Mem) (rs:Bool->List Wr),vs=[.ref z.h]/\Tn CT CR H z sa.x p ts/\StT w CS H sa m rs/\p.Ok/\Q (.bl (decide (aheadT p m (rs true) .asked .taken≠0))) H
def sp_ywaits (w:World) (ad:Ad):Sp:=λvs H Q _=>∃ (a:YA) (q:YP) (S:YS) (b:Bool),vs=[.ref a.y,.int (sdI b)]/\Yn w ad.Yard ad.Hand ad.Heart ad.Ring ad.Store H a q S/\q.Ok/\Q (.bl (swT q S b)) H
def Bh (w:World) (ad:Ad) (a:YA) (q:YP) (S':YS) (L:Nat) (dd:PyData) (H:Hp) (Q:VK):Prop:=∀ (v:V) (H':Hp),Yn w ad.Yard ad.Hand ad.Heart ad.Ring ad.Store H' a q S'->YI q S' (L+2)->DV H' dd v->KO a.own H H'->Q v H'
structure Rdy (w:World) (ad:Ad) (H:Hp) (a:YA) (q:YP) (S:YS) (L:Nat):Prop where
 y:Yn w ad.Yard ad.Hand ad.Heart ad.Ring ad.Store H a q S
 ok:q.Ok
 i:YI q S L
 l:L < 90000
def sp_doask (w:World) (ad:Ad):Sp:=λvs H Q _=>∃ (a:YA) (q:YP) (S:YS) (L:Nat) (wt:Int),vs=[.ref a.y,.int wt]/\Rdy w ad H a q S L/\aheadT q.p S.m (S.rs false) .asked .taken≠q.p.s/\least q.n S.un≠none/\Bh w ad a q ((Dd.ask wt).run q S).2 L ((Dd.ask wt).run q S).1 H Q
def sp_doans (w:World) (ad:Ad):Sp:=λvs H Q _=>∃ (a:YA) (q:YP) (S:YS) (L:Nat) (nm wt:Int),vs=[.ref a.y,.int nm,.int wt]/\Rdy w ad H a q S L/\S.tk.contains nm≠false/\aheadT q.p S.m (S.rs true) .answered .handed≠q.p.s/\Bh w ad a q ((Dd.answer nm wt).run q S).2 L ((Dd.answer nm wt).run q S).1 H Q
theorem ko_y {own:Addr->Prop} {H1 H2 H3:Hp} (h1:KO own H1 H2) (h2:KO own H2 H3):KO own H1 H3:=h1.trans h2 λ_ hc=>.inl hc
theorem ko_up {own:Addr->Prop} {H:Hp} {c:Addr} {o:HO} (h:own c):KO own H (upd H c o):=KO.of_kp Kp.one λx hx=>by rw [List.mem_singleton.mp hx];exact h
theorem lay_lenY {p:RP} {m:Mem} {row:List Wr} {g:Bool} {a:Cn} {nm wt:Int}:(layT p m row g a nm wt).length=2:=by
 unfold layT;cases p.e<;>rfl
theorem len_set {rs:Bool->List Wr} {L n:Nat} (h:∀ b,(rs b).length <= L) (b:Bool) {row:List Wr} (hr:row.length <= L+n):∀ c,(setR rs b row c).length <= L+n:=λc=>by
 by_cases e:c=b
 · subst e;rw [setR_same];exact hr
 · rw [setR_ne e];have:=h c;omega
section
variable {P:Program} {w:World} {K:PySem.W.Frag} {mg:Str->Option Value} {base:Heap} {a:Ad} {d:Fd}
theorem ok_hwaits (G:Gs K mg a d):FnOk P w K mg base CX0 6 a.Hand_something_waits d.Hand_something_waits ["self"] (sp_hwaits w a.Hand a.Ring a.Store):=by
 have c_Ring_filled:FnOk P w K mg base CX0 3 _ _ _ _:=ok_filled G
 refine G.f_Hand_something_waits.ok sc_Hand_something_waits (λvs H Q E h=>?_) (λcdv A' outer s' H vs Q E hr h=>?_)
 · obtain ⟨z,sa,p,n,aw,m,rs,rfl,_⟩:=h
   rfl
 · obtain ⟨z,sa,p,n,aw,m,rs,rfl,hn,⟨M,r,S,R,Pr⟩,hp,k⟩:=h
   refine ⟨_,(@pss_one _ _ _ (@ps_ret _ _ _ _ (pe_cmpR op_ne (pe_meth0 (pe_fld (pv 0) rfl) G.cl_Ring G.mt_Ring_filled c_Ring_filled (hr.mono (by decide)) G.b_Ring_filled .nil pass0) pe_int (nomark _)))),?_⟩
   obtain ⟨dx,hx⟩:=hn.ob
   obtain ⟨dr,hrb⟩:=hn.rb
   refine ⟨_,rfl,fld hx G.cl_Hand G.na_Hand_answers hF_answers ⟨z.rb,dr,_,rfl,hrb,rF_filled,z.rb,sa,false,"answer","answered","handed",p,M,r,rdC m (rs false) .answered,rdC m (rs false) .handed,rfl,⟨dr,hrb⟩,S,hp,by decide +kernel,by decide +kernel,readV_c R (Pr false) .answered,readV_c R (Pr false) .handed,rfl,?_⟩⟩
   have e:(!decide (V.int ((rdC m (rs false) .answered - rdC m (rs false) .handed) % (p.s * p.R))=V.int 0))=decide (aheadT p m (rs false) .answered .handed≠0):=by
     rw [Bool.eq_iff_iff,Bool.not_eq_true',decide_eq_false_iff_not,decide_eq_true_eq]
     exact not_congr ⟨λh=>by injection h,λh=>congrArg V.int h⟩
   rw [e]
   exact k
theorem ok_twaits (G:Gs K mg a d):FnOk P w K mg base CX0 6 a.Heart_something_waits d.Heart_something_waits ["self"] (sp_twaits w a.Heart a.Ring a.Store):=by
 have c_Ring_filled:FnOk P w K mg base CX0 3 _ _ _ _:=ok_filled G
 refine G.f_Heart_something_waits.ok sc_Heart_something_waits (λvs H Q E h=>?_) (λcdv A' outer s' H vs Q E hr h=>?_)
 · obtain ⟨z,sa,p,ts,m,rs,rfl,_⟩:=h
   rfl
 · obtain ⟨z,sa,p,ts,m,rs,rfl,hn,⟨M,r,S,R,Pr⟩,hp,k⟩:=h
   refine ⟨_,(@pss_one _ _ _ (@ps_ret _ _ _ _ (pe_cmpR op_ne (pe_meth0 (pe_fld (pv 0) rfl) G.cl_Ring G.mt_Ring_filled c_Ring_filled (hr.mono (by decide)) G.b_Ring_filled .nil pass0) pe_int (nomark _)))),?_⟩
   obtain ⟨dx,hx⟩:=hn.ob
   obtain ⟨dr,hra⟩:=hn.ra
   refine ⟨_,rfl,fld hx G.cl_Heart G.na_Heart_asks tF_asks ⟨z.ra,dr,_,rfl,hra,rF_filled,z.ra,sa,true,"ask","asked","taken",p,M,r,rdC m (rs true) .asked,rdC m (rs true) .taken,rfl,⟨dr,hra⟩,S,hp,by decide +kernel,by decide +kernel,readV_c R (Pr true) .asked,readV_c R (Pr true) .taken,rfl,?_⟩⟩
   have e:(!decide (V.int ((rdC m (rs true) .asked - rdC m (rs true) .taken) % (p.s * p.R))=V.int 0))=decide (aheadT p m (rs true) .asked .taken≠0):=by
     rw [Bool.eq_iff_iff,Bool.not_eq_true',decide_eq_false_iff_not,decide_eq_true_eq]
     exact not_congr ⟨λh=>by injection h,λh=>congrArg V.int h⟩
   rw [e]
   exact k
theorem ok_ywaits (G:Gs K mg a d):FnOk P w K mg base CX0 7 a.Yard_something_waits d.Yard_something_waits ["self","side"] (sp_ywaits w a):=by
 have c_Hand_something_waits:FnOk P w K mg base CX0 6 _ _ _ _:=ok_hwaits G
 have c_Heart_something_waits:FnOk P w K mg base CX0 6 _ _ _ _:=ok_twaits G
 refine G.f_Yard_something_waits.ok sc_Yard_something_waits (λvs H Q E h=>?_) (λcdv A' outer s' H vs Q E hr h=>?_)
 · obtain ⟨y,q,S,b,rfl,_⟩:=h
   rfl
 · obtain ⟨y,q,S,b,rfl,Y,qo,k⟩:=h
   refine ⟨_,(@pss_one _ _ _ (@ps_ret _ _ _ _ (pe_ifExp (pt_cmpR op_eq (pv 1) pe_int (nomark _)) (pe_meth0 (pe_fld (pv 0) rfl) G.cl_Hand G.mt_Hand_something_waits c_Hand_something_waits (hr.mono (by decide)) G.b_Hand_something_waits .nil pass0) (pe_meth0 (pe_fld (pv 0) rfl) G.cl_Heart G.mt_Heart_something_waits c_Heart_something_waits (hr.mono (by decide)) G.b_Heart_something_waits .nil pass0)))),?_⟩
   refine ⟨_,rfl,rfl,_,rfl,?_⟩
   cases b with
   | false =>
     refine iteC (by decide +kernel) ?_
     exact ⟨_,rfl,fldE Y.ob G.cl_Yard G.na_Yard_hand yF_hand (mthE Y.x.hn.ob hF_waits ⟨y.z,y.sa,q.p,_,S.un,S.m,S.rs,rfl,Y.x.hn,Y.x.st,qo.ok,k⟩)⟩
   | true =>
     refine iteN (by decide +kernel) ?_
     exact ⟨_,rfl,fldE Y.ob G.cl_Yard G.na_Yard_heart yF_heart (mthE Y.x.tn.ob tF_waits ⟨y.zt,y.sa,q.p,S.tk,S.m,S.rs,rfl,Y.x.tn,Y.x.st,qo.ok,k⟩)⟩
theorem ok_doask (G:Gs K mg a d):FnOk P w K mg base CX0 9 a.Yard_do_ask d.Yard_do_ask ["self","worth"] (sp_doask w a):=by
 have cx_Hand_ask:FnOk P w K mg base (CXv P w) 8 _ _ _ _:=(ok_ask G).imp λvs H Q E=>askT
 refine G.f_Yard_do_ask.ok sc_Yard_do_ask (λvs H Q E h=>?_) (λcdv A' outer s' H vs Q E hr h=>?_)
 · obtain ⟨y,q,S,L,wt,rfl,_⟩:=h
   rfl
 · obtain ⟨y,q,S,L,wt,rfl,Rd,hc,hl,k⟩:=h
   have Y:=Rd.y
   have ll:=Rd.l
   have ul:=Rd.i.und.len (by have:=Rd.ok.n9;omega)
   have rl:=Rd.i.len
   have hsl:=Rd.i.hl
   refine ⟨_,(@pss_cons _ _ _ _ _ (@ps_set _ _ 2 _ _ _ _ sc_Yard_do_ask.nd rfl (Or.inl rfl) (pe_meth (pe_fld (pv 0) rfl) G.cl_Hand G.mt_Hand_ask cx_Hand_ask (hr.mono (by decide)) G.b_Hand_ask .nil passX (@pa_cons _ _ _ _ _ (pv 1) pa_nil (by rfl))) (by rfl) (by first | exact .inl rfl | exact .inr rfl | assumption))
     (@pss_cons _ _ _ _ _ (@ps_expr _ _ _ _ (@pe_bm _ _ _ _ _ _ _ _ _ _ _ _ PySem.F.plainAttrs_list PySem.F.slot_list_append PySem.F.type_list_append mt_append (pe_fld (pv 0) rfl) (@pa_cons _ _ _ _ _ (@pe_tup _ _ _ _ _ (@pa_cons _ _ _ _ _ pe_str (@pa_cons _ _ _ _ _ (pv 2) (@pa_cons _ _ _ _ _ (pv 1) pa_nil (by rfl)) (by rfl)) (by rfl))) pa_nil (by rfl)) (by rfl) (by rfl) (by rfl) (by rfl) (by rfl)) (by rfl))
     (@pss_cons _ _ _ _ _ (@ps_asg _ _ _ _ _ _ pe_bl (pg_sub (pe_fld (pv 0) rfl) pe_int set_list) (by rfl) (by rfl) (by rfl))
     (@pss_one _ _ _ (@ps_ret _ _ _ _ (pv 2)))))),?_⟩
   cases hle:least q.n S.un with
   | none=>exact absurd hle hl
   | some nm =>
     refine ⟨_,rfl,fldE Y.ob G.cl_Yard G.na_Yard_hand yF_hand (mthE Y.x.hn.ob hF_ask ⟨_,rfl,y.z,y.sa,q.p,q.n,S.un,S.m,S.rs,wt,rfl,Y.x.hn,Y.x.st,Rd.ok.ok,Rd.ok.n9,by omega,by have:=rl false;omega,?_⟩)⟩
     rw [if_neg hc,hle]
     intro H1 hn1 st1 kp1
     have Y1:=Y.parts (Y.x.hand hn1 st1 kp1) kp1 own5_h
     obtain ⟨ts,h1,h2⟩:=Y1.hp
     have tl:=dvs_len h2
     refine ⟨_,rfl,fldE Y1.ob G.cl_Yard G.na_Yard_happened yF_happened ⟨.inl ⟨rfl,_,SqL.of h1⟩,_,rfl,_,rfl,l3,λt ht=>?_⟩⟩
     have e2:=same_new (o:=.tup [V.str "asked",V.int nm,V.int wt]) ht
     have v2:upd H1 t (.tup [V.str "asked",V.int nm,V.int wt]) t=some (.tup [V.str "asked",V.int nm,V.int wt]):=upd_same
     generalize upd H1 t (.tup [V.str "asked",V.int nm,V.int wt])=H2 at e2 v2 ⊢
     have Y2:=Y1.same e2
     refine ⟨y.hp,ts,_,rfl,rfl,e2 _ _ h1,Nat.lt_of_lt_of_le (show _ < 100000 by rw [tl];show S.hs.length < _;omega) (by decide),?_⟩
     have Y3:=Y2.setHp (e2 _ _ h1) (x:=tup3 "asked" (.int nm) (.int wt)) (v:=.ref t) ⟨t,_,rfl,v2,_,_,rfl,rfl,_,_,rfl,rfl,_,_,rfl,rfl,rfl⟩ rfl
     refine ⟨_,rfl,fldE Y3.ob G.cl_Yard G.na_Yard_quiet yF_quiet ⟨y.qu,_,_,_,rfl,rfl,Y3.qu,rfl,?_⟩⟩
     have Y4:=Y3.setQu false false (ys:=[.bl false,.bl (S.qt true)]) rfl
     have hrun:(Dd.ask wt).run q S=(.int nm,{ S with rs:=setR S.rs false (S.rs false++layT q.p S.m (S.rs false) false .asked nm wt),un:=S.un++[nm],qt:=setR S.qt false false,hs:=S.hs++[tup3 "asked" (.int nm) (.int wt)] }):=by
       show (match least q.n S.un with | some nm=>_ | none=>_)=_
       rw [hle]
     rw [hrun] at k
     refine ⟨_,rfl,k (.int nm) _ Y4 ⟨Rd.i.und.snoc (least_free hle) (least_lt hle),Rd.i.tkd,len_set rl false (by rw [List.length_append,lay_lenY];have:=rl false;omega),by show (S.hs++[_]).length <= _;rw [List.length_append];show _+1 <= _;omega⟩ rfl ?_⟩
     exact ko_y (KO.of_kp kp1 λc hc=>.inr (.inl (own5_h c hc))) (ko_y (KO.of_same e2) (ko_y (ko_up (.inr (.inr (.inr (.inr rfl))))) (ko_up (.inr (.inr (.inr (.inl rfl)))))))
theorem ok_doans (G:Gs K mg a d):FnOk P w K mg base CX0 9 a.Yard_do_answer d.Yard_do_answer ["self","name","worth"] (sp_doans w a):=by
 have cx_Heart_answer:FnOk P w K mg base (CXv P w) 8 _ _ _ _:=(ok_answer G).imp λvs H Q E=>answerT
 refine G.f_Yard_do_answer.ok sc_Yard_do_answer (λvs H Q E h=>?_) (λcdv A' outer s' H vs Q E hr h=>?_)
 · obtain ⟨y,q,S,L,nm,wt,rfl,_⟩:=h
   rfl
 · obtain ⟨y,q,S,L,nm,wt,rfl,Rd,h0,hc,k⟩:=h
   have Y:=Rd.y
   have ll:=Rd.l
   have rl:=Rd.i.len
   have hsl:=Rd.i.hl
   refine ⟨_,(@pss_cons _ _ _ _ _ (@ps_expr _ _ _ _ (pe_meth (pe_fld (pv 0) rfl) G.cl_Heart G.mt_Heart_answer cx_Heart_answer (hr.mono (by decide)) G.b_Heart_answer .nil passX (@pa_cons _ _ _ _ _ (pv 1) (@pa_cons _ _ _ _ _ (pv 2) pa_nil (by rfl)) (by rfl))) (by rfl))
     (@pss_cons _ _ _ _ _ (@ps_expr _ _ _ _ (@pe_bm _ _ _ _ _ _ _ _ _ _ _ _ PySem.F.plainAttrs_list PySem.F.slot_list_append PySem.F.type_list_append mt_append (pe_fld (pv 0) rfl) (@pa_cons _ _ _ _ _ (@pe_tup _ _ _ _ _ (@pa_cons _ _ _ _ _ pe_str (@pa_cons _ _ _ _ _ (pv 1) (@pa_cons _ _ _ _ _ (pv 2) pa_nil (by rfl)) (by rfl)) (by rfl))) pa_nil (by rfl)) (by rfl) (by rfl) (by rfl) (by rfl) (by rfl)) (by rfl))
     (@pss_one _ _ _ (@ps_asg _ _ _ _ _ _ pe_bl (pg_sub (pe_fld (pv 0) rfl) pe_int set_list) (by rfl) (by rfl) (by rfl))))),?_⟩
   refine ⟨_,rfl,fldE Y.ob G.cl_Yard G.na_Yard_heart yF_heart (mthE Y.x.tn.ob tF_answer ⟨_,rfl,_,rfl,y.zt,y.sa,q.p,S.tk,S.m,S.rs,nm,wt,rfl,Y.x.tn,Y.x.st,Rd.ok.ok,by have:=rl true;omega,λx hx=>Rd.i.tkd.2 x hx,?_⟩)⟩
   rw [if_neg h0,if_neg hc]
   intro H1 tn1 st1 kp1
   have Y1:=Y.parts (Y.x.heart tn1 st1 kp1) kp1 own5_t
   obtain ⟨ts,h1,h2⟩:=Y1.hp
   have tl:=dvs_len h2
   refine ⟨_,rfl,fldE Y1.ob G.cl_Yard G.na_Yard_happened yF_happened ⟨.inl ⟨rfl,_,SqL.of h1⟩,_,rfl,_,rfl,l3,λt ht=>?_⟩⟩
   have e2:=same_new (o:=.tup [V.str "answered",V.int nm,V.int wt]) ht
   have v2:upd H1 t (.tup [V.str "answered",V.int nm,V.int wt]) t=some (.tup [V.str "answered",V.int nm,V.int wt]):=upd_same
   generalize upd H1 t (.tup [V.str "answered",V.int nm,V.int wt])=H2 at e2 v2 ⊢
   have Y2:=Y1.same e2
   refine ⟨y.hp,ts,_,rfl,rfl,e2 _ _ h1,Nat.lt_of_lt_of_le (show _ < 100000 by rw [tl];show S.hs.length < _;omega) (by decide),?_⟩
   have Y3:=Y2.setHp (e2 _ _ h1) (x:=tup3 "answered" (.int nm) (.int wt)) (v:=.ref t) ⟨t,_,rfl,v2,_,_,rfl,rfl,_,_,rfl,rfl,_,_,rfl,rfl,rfl⟩ rfl
   refine ⟨_,rfl,fldE Y3.ob G.cl_Yard G.na_Yard_quiet yF_quiet ⟨y.qu,_,_,_,rfl,rfl,Y3.qu,rfl,?_⟩⟩
   have Y4:=Y3.setQu true false (ys:=[.bl (S.qt false),.bl false]) rfl
   refine k .non _ Y4 ⟨Rd.i.und,Rd.i.tkd.filter,len_set rl true (by rw [List.length_append,lay_lenY];have:=rl true;omega),by show (S.hs++[_]).length <= _;rw [List.length_append];show _+1 <= _;omega⟩ rfl ?_
   exact ko_y (KO.of_kp kp1 λc hc=>.inr (.inl (own5_t c hc))) (ko_y (KO.of_same e2) (ko_y (ko_up (.inr (.inr (.inr (.inr rfl))))) (ko_up (.inr (.inr (.inr (.inl rfl)))))))
end
def sp_tell (w:World) (ad:Ad):Sp:=λvs H Q _=>∃ (a:YA) (q:YP) (S:YS) (wd:Str) (tv:V),vs=[.ref a.y,.str wd,tv]/\Yn w ad.Yard ad.Hand ad.Heart ad.Ring ad.Store H a q S/\S.hs.length < 99000 /\
 ((tv=.non/\Q .non H)\/∃ (t:Addr) (v1 v2:V) (d1 d2:PyData),tv=.ref t/\H t=some (.tup [v1,v2])/\DV H d1 v1/\DV H d2 v2/\scD d1=true/\scD d2=true/\∀ H',Yn w ad.Yard ad.Hand ad.Heart ad.Ring ad.Store H' a q { S with hs:=S.hs++[tup3 wd d1 d2] }->KO a.own H H'->H' t=some (.tup [v1,v2])->Q (.ref t) H')
section
variable {P:Program} {w:World} {K:PySem.W.Frag} {mg:Str->Option Value} {base:Heap} {a:Ad} {d:Fd}
theorem ok_tell (G:Gs K mg a d):FnOk P w K mg base CX0 1 a.Yard_tell_fetched d.Yard_tell_fetched ["self","word","told"] (sp_tell w a):=by
 refine G.f_Yard_tell_fetched.ok sc_Yard_tell_fetched (λvs H Q E h=>?_) (λcdv A' outer s' H vs Q E hr h=>?_)
 · obtain ⟨y,q,S,wd,tv,rfl,_⟩:=h
   rfl
 · obtain ⟨y,q,S,wd,tv,rfl,Y,hsl,k⟩:=h
   refine ⟨_,(@pss_cut _ _ _ _ _ (ps_if (pt_cmpR op_notN (pv 2) pe_non (nomark _)) (@pss_one _ _ _ (@ps_expr _ _ _ _ (@pe_bm _ _ _ _ _ _ _ _ _ _ _ _ PySem.F.plainAttrs_list PySem.F.slot_list_append PySem.F.type_list_append mt_append (pe_fld (pv 0) rfl) (@pa_cons _ _ _ _ _ (@pe_tup _ _ _ _ _ (@pa_cons _ _ _ _ _ (pv 1) (@pa_cons _ _ _ _ _ (@pe_ix _ _ _ _ _ _ _ ix_tup (pv 2) pe_int (λ_ _=>rfl)) (@pa_cons _ _ _ _ _ (@pe_ix _ _ _ _ _ _ _ ix_tup (pv 2) pe_int (λ_ _=>rfl)) pa_nil (by rfl)) (by rfl)) (by rfl))) pa_nil (by rfl)) (by rfl) (by rfl) (by rfl) (by rfl) (by rfl)) (by rfl))) pss_nil)
     (@pss_one _ _ _ (@ps_ret _ _ _ _ (pv 2)))),?_⟩
   rcases k with ⟨rfl,k⟩ | ⟨t,v1,v2,d1,d2,rfl,ht,dv1,dv2,s1,s2,k⟩
   · refine ⟨λσ' H'=>H'=H/\σ'=[some (.ref y.y),some (.str wd),some .non],?_,?_⟩
     · exact ⟨_,rfl,rfl,_,rfl,iteF ⟨rfl,rfl⟩⟩
     · rintro σ' H' ⟨rfl,rfl⟩
       exact ⟨_,rfl,k⟩
   · refine ⟨λσ' H'=>σ'=[some (.ref y.y),some (.str wd),some (.ref t)]/\Yn w a.Yard a.Hand a.Heart a.Ring a.Store H' y q { S with hs:=S.hs++[tup3 wd d1 d2] }/\KO y.own H H'/\H' t=some (.tup [v1,v2]),?_,?_⟩
     · refine ⟨_,rfl,rfl,_,rfl,iteT ?_⟩
       obtain ⟨ts,h1,h2⟩:=Y.hp
       have tl:=dvs_len h2
       refine ⟨_,rfl,fldE Y.ob G.cl_Yard G.na_Yard_happened yF_happened ⟨.inl ⟨rfl,_,SqL.of h1⟩,_,rfl,_,rfl,t,_,_,_,rfl,rfl,SqT.of ht,rfl,_,rfl,t,_,_,_,rfl,rfl,SqT.of ht,rfl,l3,λt2 ht2=>?_⟩⟩
       have e2:=same_new (o:=.tup [V.str wd,v1,v2]) ht2
       have w2:upd H t2 (.tup [V.str wd,v1,v2]) t2=some (.tup [V.str wd,v1,v2]):=upd_same
       generalize upd H t2 (.tup [V.str wd,v1,v2])=H2 at e2 w2 ⊢
       have Y2:=Y.same e2
       refine ⟨y.hp,ts,_,rfl,rfl,e2 _ _ h1,Nat.lt_of_lt_of_le (show _ < 100000 by rw [tl];omega) (by decide),rfl,?_,?_,?_⟩
       · exact Y2.setHp (e2 _ _ h1) (x:=tup3 wd d1 d2) (v:=.ref t2) ⟨t2,_,rfl,w2,_,_,rfl,rfl,_,_,rfl,DV.sc s1 dv1,_,_,rfl,DV.sc s2 dv2,rfl⟩ (by show (true && (scD d1 && (scD d2 && true)))=true;rw [s1,s2];rfl)
       · exact ko_y (KO.of_same e2) (ko_up (.inr (.inr (.inr (.inr rfl)))))
       · rw [upd_ne (λz=>by rw [z,h1] at ht;cases ht)];exact e2 _ _ ht
     · rintro σ' H' ⟨rfl,Y',ko,ht'⟩
       exact ⟨_,rfl,k H' Y' ko ht'⟩
end

theorem MemR.putAllY {H:Hp}:∀ {row:List Wr} {es M:List (PyData × V)} {m:Mem},MemR H M m->Paired (WrR H) row es->MemR H (drainAll M es) (m.putAllY row)
 | _,_,_,_,R,.nil=>R
 | _,_,_,_,R,.cons hx t=>by
   have h:=MemR.putAllY (R.put hx) t
   exact h
def sp_fenceY (w:World) (C:Addr):Sp:=λvs H Q _=>∃ (sa:SA) (m:Mem) (rs:Bool->List Wr) (b:Bool),vs=[.ref sa.x,.int (sdI b)]/\StT w C H sa m rs/\(rs b).length < 99000 /\
 ∀ H',StT w C H' sa (m.putAllY (rs b)) (setR rs b [])->Kp [sa.l b,sa.hd] H H'->Q .non H'
theorem fenceY {w:World} {C:Addr} {vs:List V} {H:Hp} {Q:VK} {E:XK} (h:sp_fenceY w C vs H Q E):sp_fence w C vs H Q E:=by
 obtain ⟨sa,m,rs,b,rfl,⟨M,r,S,R,P⟩,hl,k⟩:=h
 have hl':=pairedLen (P b)
 have hM:=StT.small S R
 refine ⟨sa.x,sa.hd,sa.rl,sa.l,M,r,b,rfl,S,by omega,λH' S' kp=>k H' ?_ kp⟩
 have ht:∀ c vs,H c=some (.tup vs)->H' c=some (.tup vs):=λc vs e=>kp c _ (λmm=>by
   rcases List.mem_cons.mp mm with y | y
   · exact S.noT (b:=b) e (List.mem_singleton.mpr y)
   · obtain ⟨ee,e'⟩:=S.me.there
     rw [List.mem_singleton.mp y,e'] at e;cases e) e
 refine ⟨_,_,S',(MemR.putAllY R (P b)).keep ht,λc=>?_⟩
 by_cases e:c=b
 · subst e
   rw [setR_same,setR_same];exact .nil
 · rw [setR_ne e,setR_ne e]
   exact Paired.mapP (P c) λ_ _ q=>q.keep ht
def sp_readC (w:World) (C:Addr):Sp:=λvs H Q _=>∃ (sa:SA) (m:Mem) (rs:Bool->List Wr) (b:Bool) (k:Cn),vs=[.ref sa.x,.int (sdI b),.str k.key]/\StT w C H sa m rs/\Q (.int (rdC m (rs b) k)) H
theorem readC {w:World} {C:Addr} {vs:List V} {H:Hp} {Q:VK} {E:XK} (h:sp_readC w C vs H Q E):sp_read w C vs H Q E:=by
 obtain ⟨sa,m,rs,b,k,rfl,⟨M,r,S,R,P⟩,q⟩:=h
 refine ⟨sa.x,sa.hd,sa.rl,sa.l,M,r,b,.str k.key,.str k.key,rfl,S,kS (cn_ok k),?_⟩
 rw [readV_c R (P b) k]
 exact q
def jN (b:Bool):Nat:=if b then 1 else 0
theorem ix_sd {b:Bool}:ixN 2 (sdI b)=some (jN b):=by cases b<;>rfl
theorem set_bd {f:Bool->Bd} {b:Bool} {x:Bd}:[V.str (f false).key,V.str (f true).key].set (jN b) (.str x.key)=[V.str (setR f b x false).key,V.str (setR f b x true).key]:=by cases b<;>rfl
theorem set_qt {f:Bool->Bool} {b x:Bool}:[V.bl (f false),V.bl (f true)].set (jN b) (.bl x)=[V.bl (setR f b x false),V.bl (setR f b x true)]:=by cases b<;>rfl
theorem slp_at {b:Bool}:atI [V.str "hand sleeps",V.str "heart sleeps"] (sdI b)=some (.str (slpC b).key):=by cases b<;>rfl
theorem sd_other (b:Bool):(1:Int) - sdI b=sdI (!b):=by cases b<;>rfl
def sp_dobell (w:World) (ad:Ad):Sp:=λvs H Q _=>∃ (a:YA) (q:YP) (S:YS) (L:Nat) (b:Bool),vs=[.ref a.y,.int (sdI b)]/\Rdy w ad H a q S L/\Bh w ad a q ((Dd.bell b).run q S).2 L ((Dd.bell b).run q S).1 H Q
def sp_dolie (w:World) (ad:Ad):Sp:=λvs H Q _=>∃ (a:YA) (q:YP) (S:YS) (L:Nat) (b:Bool),vs=[.ref a.y,.int (sdI b)]/\Rdy w ad H a q S L/\Bh w ad a q ((Dd.lie b).run q S).2 L ((Dd.lie b).run q S).1 H Q
def sp_dolook (w:World) (ad:Ad):Sp:=λvs H Q _=>∃ (a:YA) (q:YP) (S:YS) (L:Nat) (b:Bool),vs=[.ref a.y,.int (sdI b)]/\Rdy w ad H a q S L/\Bh w ad a q ((Dd.look b).run q S).2 L ((Dd.look b).run q S).1 H Q
section
variable {P:Program} {w:World} {K:PySem.W.Frag} {mg:Str->Option Value} {base:Heap} {a:Ad} {d:Fd}
theorem yfence {ad:Ad} {H H':Hp} {y:YA} {q:YP} {S:YS} {b:Bool} (Y:Yn w ad.Yard ad.Hand ad.Heart ad.Ring ad.Store H y q S) (st:StT w ad.Store H' y.sa (S.m.putAllY (S.rs b)) (setR S.rs b [])) (kp:Kp [y.sa.l b,y.sa.hd] H H'):Yn w ad.Yard ad.Hand ad.Heart ad.Ring ad.Store H' y q (S.fence b):=Y.parts (Y.x.store st kp) kp own5_s
theorem ywrite {ad:Ad} {H H':Hp} {y:YA} {q:YP} {S:YS} {b:Bool} {x:Wr} (Y:Yn w ad.Yard ad.Hand ad.Heart ad.Ring ad.Store H y q S) (st:StT w ad.Store H' y.sa S.m (setR S.rs b (S.rs b++[x]))) (kp:Kp [y.sa.l b] H H'):Yn w ad.Yard ad.Hand ad.Heart ad.Ring ad.Store H' y q (S.wr b x):=Y.parts (Y.x.store (b:=b) st (kp.mono λc hc=>by rw [List.mem_singleton.mp hc];exact List.mem_cons_self)) kp λc hc=>own5_s (b:=b) c (by rw [List.mem_singleton.mp hc];exact List.mem_cons_self)
theorem ko_s {y:YA} {H H':Hp} {b:Bool} (kp:Kp [y.sa.l b,y.sa.hd] H H'):KO y.own H H':=KO.of_kp kp λc hc=>.inr (.inl (own5_s c hc))
theorem ko_l {y:YA} {H H':Hp} {b:Bool} (kp:Kp [y.sa.l b] H H'):KO y.own H H':=KO.of_kp kp λc hc=>.inr (.inl (own5_s (b:=b) c (by rw [List.mem_singleton.mp hc];exact List.mem_cons_self)))
theorem ok_dolook (G:Gs K mg a d):FnOk P w K mg base CX0 8 a.Yard_do_look d.Yard_do_look ["self","side"] (sp_dolook w a):=by
 have c_Yard_something_waits:FnOk P w K mg base CX0 7 _ _ _ _:=ok_ywaits G
 have c_Store_write:FnOk P w K mg base CX0 1 _ _ _ _:=(ok_write G).imp λvs H Q E=>writeT
 refine G.f_Yard_do_look.ok sc_Yard_do_look (λvs H Q E h=>?_) (λcdv A' outer s' H vs Q E hr h=>?_)
 · obtain ⟨y,q,S,L,b,rfl,_⟩:=h
   rfl
 · obtain ⟨y,q,S,L,b,rfl,Rd,k⟩:=h
   have Y:=Rd.y
   have ll:=Rd.l
   have rl:=Rd.i.len
   have hu:=hu_of hr
   refine ⟨_,(@pss_cons _ _ _ _ _ (ps_if ((pw_or (pt_not (pt_val (pe_fld (pv 0) rfl))) (pw_or1 (pt_not (pt_val (pe_meth (pv 0) G.cl_Yard G.mt_Yard_something_waits c_Yard_something_waits (hr.mono (by decide)) G.b_Yard_something_waits .nil pass0 (@pa_cons _ _ _ _ _ (pv 1) pa_nil (by rfl)))))))).pt (@pss_cons _ _ _ _ _ (@ps_asg _ _ _ _ _ _ pe_str (pg_sub (pe_fld (pv 0) rfl) (pv 1) set_list) (by rfl) (by rfl) (by rfl))
     (@pss_one _ _ _ (@ps_ret _ _ _ _ pe_bl))) pss_nil)
     (@pss_cons _ _ _ _ _ (@ps_expr _ _ _ _ (pe_meth (pe_fld (pv 0) rfl) G.cl_Store G.mt_Store_write c_Store_write (hr.mono (by decide)) G.b_Store_write .nil pass0 (@pa_cons _ _ _ _ _ (pv 1) (@pa_cons _ _ _ _ _ (@pe_ix _ _ _ _ _ _ _ ix_tup (pe_glob (v:=.ref a.T_SLEEP_CELLS) (by rfl) G.m_SLEEP_CELLS rfl) (pv 1) (λ_ _=>rfl)) (@pa_cons _ _ _ _ _ pe_int pa_nil (by rfl)) (by rfl)) (by rfl))) (by rfl))
     (@pss_cons _ _ _ _ _ (@ps_asg _ _ _ _ _ _ pe_str (pg_sub (pe_fld (pv 0) rfl) (pv 1) set_list) (by rfl) (by rfl) (by rfl))
     (@pss_one _ _ _ (@ps_ret _ _ _ _ pe_bl))))),?_⟩
   have bad:¬ (q.fk=true/\swT q S b=true)->Q (.bl false) (upd H y.sl (.lst [.str (setR S.bd b .asleep false).key,.str (setR S.bd b .asleep true).key])):=λhn=>by
     have k2:=k
     rw [show (Dd.look b).run q S=_ from if_neg hn] at k2
     exact k2 (.bl false) _ (Y.setSl b .asleep rfl) ⟨Rd.i.und,Rd.i.tkd,λc=>by have:=rl c;show (S.rs c).length <= _;omega,by have:=Rd.i.hl;show S.hs.length <= _;omega⟩ rfl (ko_up (.inr (.inr (.inl rfl))))
   refine ⟨_,rfl,fldE Y.ob G.cl_Yard G.na_Yard_look_sees yF_look ⟨_,rfl,?_⟩⟩
   cases hfk:q.fk with
   | false =>
     refine iteT ?_
     exact ⟨_,rfl,fldE Y.ob G.cl_Yard G.na_Yard_sleepers yF_sleepers ⟨_,rfl,y.sl,_,_,_,rfl,rfl,Y.sl,ix_sd,by rw [show (V.str "asleep":V)=.str (Bd.key .asleep) from rfl,set_bd];exact bad (by rw [hfk];exact λz=>by cases z.1)⟩⟩
   | true =>
     refine iteF ?_
     refine ⟨_,rfl,mthE Y.ob (yF_no (by decide +kernel)) ⟨_,rfl,y,q,S,b,rfl,Y,Rd.ok,_,rfl,?_⟩⟩
     cases hw:swT q S b with
     | false =>
       refine iteT ?_
       exact ⟨_,rfl,fldE Y.ob G.cl_Yard G.na_Yard_sleepers yF_sleepers ⟨_,rfl,y.sl,_,_,_,rfl,rfl,Y.sl,ix_sd,by rw [show (V.str "asleep":V)=.str (Bd.key .asleep) from rfl,set_bd];exact bad (by rw [hw];exact λz=>by cases z.2)⟩⟩
     | true =>
       refine iteF ?_
       refine ⟨_,rfl,fldE Y.ob G.cl_Yard G.na_Yard_shelf yF_shelf (mthE Y.x.st.ob (stF_no (by decide +kernel) (by decide +kernel)) ⟨_,rfl,_,rfl,a.T_SLEEP_CELLS,_,sdI b,.str (slpC b).key,rfl,rfl,G.t_SLEEP_CELLS _,slp_at,y.sa,S.m,S.rs,b,.str (slpC b).key,.int 0,.c (slpC b) 0,rfl,Y.x.st,by have:=rl b;omega,kS (cn_ok _),rfl,trivial,λH1 st1 kp1=>?_⟩)⟩
       have Y1:=ywrite Y st1 kp1
       refine ⟨_,rfl,fldE Y1.ob G.cl_Yard G.na_Yard_sleepers yF_sleepers ⟨_,rfl,y.sl,_,_,_,rfl,rfl,Y1.sl,ix_sd,?_⟩⟩
       rw [show (V.str "up":V)=.str (Bd.key .up) from rfl,set_bd]
       have Y2:=Y1.setSl b .up rfl
       have k2:=k
       rw [show (Dd.look b).run q S=_ from if_pos ⟨hfk,hw⟩] at k2
       exact k2 (.bl true) _ Y2 ⟨Rd.i.und,Rd.i.tkd,len_set rl b (by rw [List.length_append];have:=rl b;show _+1 <= _;omega),by have:=Rd.i.hl;show S.hs.length <= _;omega⟩ rfl (ko_y (ko_l kp1) (ko_up (.inr (.inr (.inl rfl)))))
theorem ok_dolie (G:Gs K mg a d):FnOk P w K mg base CX0 8 a.Yard_do_lie d.Yard_do_lie ["self","side"] (sp_dolie w a):=by
 have c_Store_write:FnOk P w K mg base CX0 1 _ _ _ _:=(ok_write G).imp λvs H Q E=>writeT
 have c_Store_fence:FnOk P w K mg base CX0 2 _ _ _ _:=(ok_fence G).imp λvs H Q E=>fenceY
 refine G.f_Yard_do_lie.ok sc_Yard_do_lie (λvs H Q E h=>?_) (λcdv A' outer s' H vs Q E hr h=>?_)
 · obtain ⟨y,q,S,L,b,rfl,_⟩:=h
   rfl
 · obtain ⟨y,q,S,L,b,rfl,Rd,k⟩:=h
   have Y:=Rd.y
   have ll:=Rd.l
   have rl:=Rd.i.len
   have hu:=hu_of hr
   refine ⟨_,(@pss_cons _ _ _ _ _ (@ps_expr _ _ _ _ (pe_meth (pe_fld (pv 0) rfl) G.cl_Store G.mt_Store_write c_Store_write (hr.mono (by decide)) G.b_Store_write .nil pass0 (@pa_cons _ _ _ _ _ (pv 1) (@pa_cons _ _ _ _ _ (@pe_ix _ _ _ _ _ _ _ ix_tup (pe_glob (v:=.ref a.T_SLEEP_CELLS) (by rfl) G.m_SLEEP_CELLS rfl) (pv 1) (λ_ _=>rfl)) (@pa_cons _ _ _ _ _ pe_int pa_nil (by rfl)) (by rfl)) (by rfl))) (by rfl))
     (@pss_cut _ _ _ _ _ (ps_if (pt_val (pe_fld (pv 0) rfl)) (@pss_one _ _ _ (@ps_expr _ _ _ _ (pe_meth (pe_fld (pv 0) rfl) G.cl_Store G.mt_Store_fence c_Store_fence (hr.mono (by decide)) G.b_Store_fence .nil pass0 (@pa_cons _ _ _ _ _ (pv 1) pa_nil (by rfl))) (by rfl))) pss_nil)
     (@pss_one _ _ _ (@ps_asg _ _ _ _ _ _ pe_str (pg_sub (pe_fld (pv 0) rfl) (pv 1) set_list) (by rfl) (by rfl) (by rfl))))),?_⟩
   refine ⟨_,rfl,fldE Y.ob G.cl_Yard G.na_Yard_shelf yF_shelf (mthE Y.x.st.ob (stF_no (by decide +kernel) (by decide +kernel)) ⟨_,rfl,_,rfl,a.T_SLEEP_CELLS,_,sdI b,.str (slpC b).key,rfl,rfl,G.t_SLEEP_CELLS _,slp_at,y.sa,S.m,S.rs,b,.str (slpC b).key,.int 1,.c (slpC b) 1,rfl,Y.x.st,by have:=rl b;omega,kS (cn_ok _),rfl,trivial,λH1 st1 kp1=>?_⟩)⟩
   have Y1:=ywrite Y st1 kp1
   have rl1:∀ c,((S.wr b (.c (slpC b) 1)).rs c).length <= L+2:=len_set rl b (by rw [List.length_append];have:=rl b;show _+1 <= _;omega)
   refine ⟨λσ' H'=>σ'=[some (.ref y.y),some (.int (sdI b))]/\KO y.own H H'/\∃ S2:YS,S2=(if q.fl then (S.wr b (.c (slpC b) 1)).fence b else S.wr b (.c (slpC b) 1))/\Yn w a.Yard a.Hand a.Heart a.Ring a.Store H' y q S2,?_,?_⟩
   · refine ⟨_,rfl,fldE Y1.ob G.cl_Yard G.na_Yard_lie_fences yF_lie ⟨_,rfl,?_⟩⟩
     cases hfl:q.fl with
     | true =>
       refine iteT ?_
       refine ⟨_,rfl,fldE Y1.ob G.cl_Yard G.na_Yard_shelf yF_shelf (mthE Y1.x.st.ob (stF_no (by decide +kernel) (by decide +kernel)) ⟨_,rfl,y.sa,_,_,b,rfl,Y1.x.st,by have:=rl1 b;omega,λH2 st2 kp2=>⟨rfl,ko_y (ko_l kp1) (ko_s kp2),_,rfl,yfence Y1 st2 kp2⟩⟩)⟩
     | false=>exact iteF ⟨rfl,ko_l kp1,_,rfl,Y1⟩
   · rintro σ' H2 ⟨rfl,ko,S2,hS2,Y2⟩
     refine ⟨_,rfl,fldE Y2.ob G.cl_Yard G.na_Yard_sleepers yF_sleepers ⟨_,rfl,y.sl,_,_,_,rfl,rfl,Y2.sl,ix_sd,?_⟩⟩
     rw [show (V.str "lies":V)=.str (Bd.key .lies) from rfl,set_bd]
     have Y3:=Y2.setSl b .lies rfl
     have k2:Bh w a y q { S2 with bd:=setR S2.bd b .lies } L .none H Q:=by rw [hS2];exact k
     have hun:S2.un=S.un/\S2.tk=S.tk/\S2.hs=S.hs/\∀ c,(S2.rs c).length <= L+2:=by
       rw [hS2]
       cases q.fl with
       | true =>
         refine ⟨rfl,rfl,rfl,λc=>?_⟩
         show (setR _ b [] c).length <= _
         by_cases e:c=b
         · subst e;rw [setR_same];exact Nat.zero_le _
         · rw [setR_ne e];exact rl1 c
       | false=>exact ⟨rfl,rfl,rfl,rl1⟩
     exact k2 .non _ Y3 ⟨by show Nms _ S2.un;rw [hun.1];exact Rd.i.und,by show Nms _ S2.tk;rw [hun.2.1];exact Rd.i.tkd,hun.2.2.2,by have:=Rd.i.hl;show S2.hs.length <= _;rw [hun.2.2.1];omega⟩ rfl (ko_y ko (ko_up (.inr (.inr (.inl rfl)))))
theorem ok_dobell (G:Gs K mg a d):FnOk P w K mg base CX0 8 a.Yard_do_bell d.Yard_do_bell ["self","side"] (sp_dobell w a):=by
 have c_Store_write:FnOk P w K mg base CX0 1 _ _ _ _:=(ok_write G).imp λvs H Q E=>writeT
 have c_Store_fence:FnOk P w K mg base CX0 2 _ _ _ _:=(ok_fence G).imp λvs H Q E=>fenceY
 have c_Store_read:FnOk P w K mg base CX0 2 _ _ _ _:=(ok_read G).imp λvs H Q E=>readC
 refine G.f_Yard_do_bell.ok sc_Yard_do_bell (λvs H Q E h=>?_) (λcdv A' outer s' H vs Q E hr h=>?_)
 · obtain ⟨y,q,S,L,b,rfl,_⟩:=h
   rfl
 · obtain ⟨y,q,S,L,b,rfl,Rd,k⟩:=h
   have Y:=Rd.y
   have ll:=Rd.l
   have rl:=Rd.i.len
   have hu:=hu_of hr
   refine ⟨_,(@pss_cons _ _ _ _ _ (@ps_set _ _ 2 _ _ _ _ sc_Yard_do_bell.nd rfl (Or.inl rfl) (@pe_op _ _ _ _ _ _ _ _ op_sub pe_int (pv 1)) (by rfl) (by first | exact .inl rfl | exact .inr rfl | assumption))
     (@pss_cut _ _ _ _ _ (ps_if (pt_val (pe_fld (pv 0) rfl)) (@pss_one _ _ _ (@ps_expr _ _ _ _ (pe_meth (pe_fld (pv 0) rfl) G.cl_Store G.mt_Store_fence c_Store_fence (hr.mono (by decide)) G.b_Store_fence .nil pass0 (@pa_cons _ _ _ _ _ (pv 1) pa_nil (by rfl))) (by rfl))) pss_nil)
     (@pss_cons _ _ _ _ _ (@ps_asg _ _ _ _ _ _ pe_bl (pg_sub (pe_fld (pv 0) rfl) (pv 1) set_list) (by rfl) (by rfl) (by rfl))
     (@pss_cons _ _ _ _ _ (ps_if (pt_cmpR (op_neD hr.units) (pe_meth (pe_fld (pv 0) rfl) G.cl_Store G.mt_Store_read c_Store_read (hr.mono (by decide)) G.b_Store_read .nil pass0 (@pa_cons _ _ _ _ _ (pv 1) (@pa_cons _ _ _ _ _ (@pe_ix _ _ _ _ _ _ _ ix_tup (pe_glob (v:=.ref a.T_SLEEP_CELLS) (by rfl) G.m_SLEEP_CELLS rfl) (pv 2) (λ_ _=>rfl)) pa_nil (by rfl)) (by rfl))) pe_int (nomark _)) (@pss_one _ _ _ (@ps_ret _ _ _ _ pe_bl)) pss_nil)
     (@pss_cut _ _ _ _ _ (ps_if (pt_cmpR op_eq (@pe_ix _ _ _ _ _ _ _ ix_list (pe_fld (pv 0) rfl) (pv 2) (λ_ _=>rfl)) pe_str (nomark _)) (@pss_cons _ _ _ _ _ (@ps_asg _ _ _ _ _ _ pe_str (pg_sub (pe_fld (pv 0) rfl) (pv 2) set_list) (by rfl) (by rfl) (by rfl))
     (@pss_one _ _ _ (@ps_expr _ _ _ _ (pe_meth (pe_fld (pv 0) rfl) G.cl_Store G.mt_Store_write c_Store_write (hr.mono (by decide)) G.b_Store_write .nil pass0 (@pa_cons _ _ _ _ _ (pv 2) (@pa_cons _ _ _ _ _ (@pe_ix _ _ _ _ _ _ _ ix_tup (pe_glob (v:=.ref a.T_SLEEP_CELLS) (by rfl) G.m_SLEEP_CELLS rfl) (pv 2) (λ_ _=>rfl)) (@pa_cons _ _ _ _ _ pe_int pa_nil (by rfl)) (by rfl)) (by rfl))) (by rfl)))) pss_nil)
     (@pss_one _ _ _ (@ps_ret _ _ _ _ pe_bl))))))),?_⟩
   refine ⟨_,rfl,_,_,rfl,rfl,?_⟩
   refine ⟨λσ' H'=>σ'=[some (.ref y.y),some (.int (sdI b)),some (.int (sdI (!b)))]/\KO y.own H H'/\∃ S1:YS,S1=(if q.fb then S.fence b else S)/\Yn w a.Yard a.Hand a.Heart a.Ring a.Store H' y q S1,?_,?_⟩
   · refine ⟨_,rfl,fldE Y.ob G.cl_Yard G.na_Yard_bell_fences yF_bell ⟨_,rfl,?_⟩⟩
     cases hfb:q.fb with
     | true =>
       refine iteT ?_
       refine ⟨_,rfl,fldE Y.ob G.cl_Yard G.na_Yard_shelf yF_shelf (mthE Y.x.st.ob (stF_no (by decide +kernel) (by decide +kernel)) ⟨_,rfl,y.sa,_,_,b,rfl,Y.x.st,by have:=rl b;omega,λH2 st2 kp2=>⟨by rw [← sd_other];rfl,ko_s kp2,_,rfl,yfence Y st2 kp2⟩⟩)⟩
     | false=>exact iteF ⟨by rw [← sd_other];rfl,KO.refl _ _,_,rfl,Y⟩
   · rintro σ' H1 ⟨rfl,ko1,S1,hS1,Y1⟩
     refine ⟨_,rfl,fldE Y1.ob G.cl_Yard G.na_Yard_quiet yF_quiet ⟨_,rfl,y.qu,_,_,jN b,rfl,rfl,Y1.qu,ix_sd,?_⟩⟩
     rw [set_qt]
     have Y2:=Y1.setQu b true rfl
     have ko2:KO y.own H (upd H1 y.qu (.lst [V.bl (setR S1.qt b true false),V.bl (setR S1.qt b true true)])):=ko_y ko1 (ko_up (.inr (.inr (.inr (.inl rfl)))))
     generalize upd H1 y.qu (.lst [V.bl (setR S1.qt b true false),V.bl (setR S1.qt b true true)])=H2 at Y2 ko2 ⊢
     obtain ⟨S2,hS2⟩:∃ S2:YS,S2={ S1 with qt:=setR S1.qt b true }:=⟨_,rfl⟩
     rw [← hS2] at Y2
     have fS:S2.un=S.un/\S2.tk=S.tk/\S2.hs=S.hs/\(∀ c,(S2.rs c).length <= L):=by
       rw [hS2,hS1]
       cases q.fb with
       | true =>
         refine ⟨rfl,rfl,rfl,λc=>?_⟩
         show (setR S.rs b [] c).length <= _
         by_cases e:c=b
         · subst e;rw [setR_same];exact Nat.zero_le _
         · rw [setR_ne e];exact rl c
       | false=>exact ⟨rfl,rfl,rfl,rl⟩
     have yi:YI q S2 (L+2):=⟨by rw [fS.1];exact Rd.i.und,by rw [fS.2.1];exact Rd.i.tkd,λc=>by have:=fS.2.2.2 c;omega,by rw [fS.2.2.1];have:=Rd.i.hl;omega⟩
     have hrun:(Dd.bell b).run q S=(if rdC S2.m (S2.rs b) (slpC (!b))≠1 then (.bool false,S2) else if S2.bd (!b)=.asleep then (.bool true,({ S2 with bd:=setR S2.bd (!b) .up }:YS).wr (!b) (.c (slpC (!b)) 0)) else (.bool true,S2)):=by rw [hS2,hS1];rfl
     rw [hrun] at k
     clear hrun hS2 hS1 Y1 ko1
     refine ⟨_,rfl,fldE Y2.ob G.cl_Yard G.na_Yard_shelf yF_shelf (mthE Y2.x.st.ob (stF_no (by decide +kernel) (by decide +kernel)) ⟨_,rfl,_,rfl,a.T_SLEEP_CELLS,_,sdI (!b),.str (slpC (!b)).key,rfl,rfl,G.t_SLEEP_CELLS _,slp_at,y.sa,_,_,b,slpC (!b),rfl,Y2.x.st,?_⟩)⟩
     refine ⟨.int (rdC S2.m (S2.rs b) (slpC (!b))),.int 1,rfl,rfl,LayD.int _,LayD.int _,_,rfl,?_⟩
     simp only [if_true]
     by_cases h1:rdC S2.m (S2.rs b) (slpC (!b))=1
     · rw [if_neg (by rw [h1];exact λz=>z rfl)] at k
       refine iteN ?_ ?_
       · rw [h1];decide +kernel
       refine ⟨λσ' H'=>σ'=[some (.ref y.y),some (.int (sdI b)),some (.int (sdI (!b)))]/\Q (.bl true) H',?_,?_⟩
       · refine ⟨_,rfl,fldE Y2.ob G.cl_Yard G.na_Yard_sleepers yF_sleepers ⟨_,rfl,y.sl,_,_,_,rfl,rfl,SqL.of Y2.sl,bd_at (!b),rfl,_,rfl,?_⟩⟩
         by_cases h2:S2.bd (!b)=.asleep
         · rw [if_pos h2] at k
           refine iteC (decide_eq_true (by rw [h2];rfl)) ?_
           refine ⟨_,rfl,fldE Y2.ob G.cl_Yard G.na_Yard_sleepers yF_sleepers ⟨_,rfl,y.sl,_,_,jN (!b),rfl,rfl,Y2.sl,ix_sd,?_⟩⟩
           rw [show (V.str "up":V)=.str (Bd.key .up) from rfl,set_bd]
           have Y3:=Y2.setSl (!b) .up rfl
           have ko3:KO y.own H (upd H2 y.sl (.lst [V.str (setR S2.bd (!b) .up false).key,V.str (setR S2.bd (!b) .up true).key])):=ko_y ko2 (ko_up (.inr (.inr (.inl rfl))))
           generalize upd H2 y.sl (.lst [V.str (setR S2.bd (!b) .up false).key,V.str (setR S2.bd (!b) .up true).key])=H3 at Y3 ko3 ⊢
           refine ⟨_,rfl,fldE Y3.ob G.cl_Yard G.na_Yard_shelf yF_shelf (mthE Y3.x.st.ob (stF_no (by decide +kernel) (by decide +kernel)) ⟨_,rfl,_,rfl,a.T_SLEEP_CELLS,_,sdI (!b),.str (slpC (!b)).key,rfl,rfl,G.t_SLEEP_CELLS _,slp_at,y.sa,_,_,!b,.str (slpC (!b)).key,.int 0,.c (slpC (!b)) 0,rfl,Y3.x.st,by have:=fS.2.2.2 (!b);show (S2.rs (!b)).length < _;omega,kS (cn_ok _),rfl,trivial,λH4 st4 kp4=>⟨rfl,?_⟩⟩)⟩
           have Y4:=ywrite Y3 st4 kp4
           exact k (.bl true) H4 Y4 ⟨yi.und,yi.tkd,len_set fS.2.2.2 (!b) (by show (S2.rs (!b)++[_]).length <= _;rw [List.length_append];have:=fS.2.2.2 (!b);show _+1 <= _;omega),yi.hl⟩ rfl (ko_y ko3 (ko_l kp4))
         · rw [if_neg h2] at k
           refine iteN (by rw [decide_eq_true_eq];exact bd_ne h2) ⟨rfl,?_⟩
           exact k (.bl true) H2 Y2 yi rfl ko2
       · rintro σ' H' ⟨rfl,k'⟩
         exact k'
     · rw [if_pos h1] at k
       refine iteC ?_ (k (.bl false) H2 Y2 yi rfl ko2)
       rw [Bool.not_eq_true']
       cases z:PyData.eqv (.int (rdC S2.m (S2.rs b) (slpC (!b)))) (.int 1) with
       | false=>rfl
       | true=>exact absurd (by have:=(MX.eqv_iff _ _ rfl rfl).mp z;injection this) h1
end

theorem chk_ask {q:YP} {S:YS} {wt:Int} (h:(Dd.ask wt).chk q S=none):aheadT q.p S.m (S.rs false) .asked .taken≠q.p.s/\least q.n S.un≠none:=by
 have h':(if S.bd false=.up then (if aheadT q.p S.m (S.rs false) .asked .taken=q.p.s then some Rf.full else match least q.n S.un with | none=>some Rf.name | some _=>none) else some Rf.deed)=none:=h
 split at h'
 · split at h'
   · cases h'
   · rename_i z
     refine ⟨z,λy=>?_⟩
     rw [y] at h'
     cases h'
 · cases h'
theorem chk_ans {q:YP} {S:YS} {nm wt:Int} (h:(Dd.answer nm wt).chk q S=none):S.tk.contains nm≠false/\aheadT q.p S.m (S.rs true) .answered .handed≠q.p.s:=by
 have h':(if S.bd true=.up then (if S.tk.contains nm=false then some Rf.task else if aheadT q.p S.m (S.rs true) .answered .handed=q.p.s then some Rf.full else none) else some Rf.deed)=none:=h
 split at h'
 · split at h'
   · cases h'
   · split at h'
     · cases h'
     · rename_i z1 z2
       exact ⟨z1,z2⟩
 · cases h'
theorem chk_drain {q:YP} {S:YS} {b:Bool} (h:(Dd.drain b).chk q S=none):∃ x rest,S.rs b=x :: rest:=by
 cases e:S.rs b with
 | cons x rest=>exact ⟨x,rest,rfl⟩
 | nil =>
   have h':(if S.rs b=[] then some Rf.deed else none)=none:=h
   rw [e] at h'
   cases h'
def sp_deed (w:World) (ad:Ad):Sp:=λvs H Q E=>∃ (a:YA) (q:YP) (S:YS) (L:Nat) (x:Dd) (t:Addr),vs=[.ref a.y,.ref t]/\Rdy w ad H a q S L/\H t=some (.tup x.vs)/\x.Ok /\
 match x.chk q S with
 | none=>Bh w ad a q (x.run q S).2 L (x.run q S).1 H Q
 | some r=>∀ H',Same H H'->E (.ref (rfC ad r)) none H'
section
variable {P:Program} {w:World} {K:PySem.W.Frag} {mg:Str->Option Value} {base:Heap} {a:Ad} {d:Fd}
theorem ok_deed (G:Gs K mg a d):FnOk P w K mg base (CXv P w) 10 a.Yard_deed d.Yard_deed ["self","some"] (sp_deed w a):=by
 have cx_Yard_check:FnOk P w K mg base (CXv P w) 8 _ _ _ _:=ok_ycheck G
 have c_Yard_do_ask:FnOk P w K mg base CX0 9 _ _ _ _:=ok_doask G
 have c_Yard_do_answer:FnOk P w K mg base CX0 9 _ _ _ _:=ok_doans G
 have c_Yard_do_bell:FnOk P w K mg base CX0 8 _ _ _ _:=ok_dobell G
 have c_Yard_do_lie:FnOk P w K mg base CX0 8 _ _ _ _:=ok_dolie G
 have c_Yard_do_look:FnOk P w K mg base CX0 8 _ _ _ _:=ok_dolook G
 have c_Yard_tell_fetched:FnOk P w K mg base CX0 1 _ _ _ _:=ok_tell G
 have c_Hand_collect:FnOk P w K mg base CX0 7 _ _ _ _:=(ok_collect G).imp λvs H Q E=>collectT
 have c_Heart_take:FnOk P w K mg base CX0 7 _ _ _ _:=(ok_taske G).imp λvs H Q E=>takeT
 have c_Store_drain:FnOk P w K mg base CX0 1 _ _ _ _:=(ok_drain G).imp λvs H Q E=>drainT
 refine G.f_Yard_deed.okX (k:=9) sc_Yard_deed (λvs H Q E h=>?_) (λcdv A' outer s' H vs Q E hr hR h=>?_)
 · obtain ⟨y,q,S,L,x,t,rfl,_⟩:=h
   rfl
 · obtain ⟨y,q,S,L,x,t,rfl,Rd,ht,hx,k⟩:=h
   have hu:=hu_of hr
   refine ⟨_,(@pss_cons _ _ _ _ _ (@ps_expr _ _ _ _ (pe_meth (pv 0) G.cl_Yard G.mt_Yard_check cx_Yard_check (hr.mono (by decide)) G.b_Yard_check .nil hR.passes (@pa_cons _ _ _ _ _ (pv 1) pa_nil (by rfl))) (by rfl))
     (@pss_cons _ _ _ _ _ (@ps_set _ _ 2 _ _ _ _ sc_Yard_deed.nd rfl (Or.inl rfl) (@pe_ix _ _ _ _ _ _ _ ix_tup (pv 1) pe_int (λ_ _=>rfl)) (by rfl) (by first | exact .inl rfl | exact .inr rfl | assumption))
     (@pss_cons _ _ _ _ _ (ps_if (pt_cmpR op_eq (pv 2) pe_str (nomark _)) (@pss_one _ _ _ (@ps_ret _ _ _ _ (pe_meth (pv 0) G.cl_Yard G.mt_Yard_do_ask c_Yard_do_ask (hr.mono (by decide)) G.b_Yard_do_ask .nil pass0 (@pa_cons _ _ _ _ _ (@pe_ix _ _ _ _ _ _ _ ix_tup (pv 1) pe_int (λ_ _=>rfl)) pa_nil (by rfl))))) pss_nil)
     (@pss_cons _ _ _ _ _ (ps_if (pt_cmpR op_eq (pv 2) pe_str (nomark _)) (@pss_one _ _ _ (@ps_ret _ _ _ _ (pe_meth (pv 0) G.cl_Yard G.mt_Yard_tell_fetched c_Yard_tell_fetched (hr.mono (by decide)) G.b_Yard_tell_fetched .nil pass0 (@pa_cons _ _ _ _ _ pe_str (@pa_cons _ _ _ _ _ (pe_meth0 (pe_fld (pv 0) rfl) G.cl_Hand G.mt_Hand_collect c_Hand_collect (hr.mono (by decide)) G.b_Hand_collect .nil pass0) pa_nil (by rfl)) (by rfl))))) pss_nil)
     (@pss_cons _ _ _ _ _ (ps_if (pt_cmpR op_eq (pv 2) pe_str (nomark _)) (@pss_one _ _ _ (@ps_ret _ _ _ _ (pe_meth (pv 0) G.cl_Yard G.mt_Yard_tell_fetched c_Yard_tell_fetched (hr.mono (by decide)) G.b_Yard_tell_fetched .nil pass0 (@pa_cons _ _ _ _ _ pe_str (@pa_cons _ _ _ _ _ (pe_meth0 (pe_fld (pv 0) rfl) G.cl_Heart G.mt_Heart_take c_Heart_take (hr.mono (by decide)) G.b_Heart_take .nil pass0) pa_nil (by rfl)) (by rfl))))) pss_nil)
     (@pss_cons _ _ _ _ _ (ps_if (pt_cmpR op_eq (pv 2) pe_str (nomark _)) (@pss_one _ _ _ (@ps_ret _ _ _ _ (pe_meth (pv 0) G.cl_Yard G.mt_Yard_do_answer c_Yard_do_answer (hr.mono (by decide)) G.b_Yard_do_answer .nil pass0 (@pa_cons _ _ _ _ _ (@pe_ix _ _ _ _ _ _ _ ix_tup (pv 1) pe_int (λ_ _=>rfl)) (@pa_cons _ _ _ _ _ (@pe_ix _ _ _ _ _ _ _ ix_tup (pv 1) pe_int (λ_ _=>rfl)) pa_nil (by rfl)) (by rfl))))) pss_nil)
     (@pss_cons _ _ _ _ _ (ps_if (pt_cmpR op_eq (pv 2) pe_str (nomark _)) (@pss_one _ _ _ (@ps_ret _ _ _ _ (pe_meth (pv 0) G.cl_Yard G.mt_Yard_do_bell c_Yard_do_bell (hr.mono (by decide)) G.b_Yard_do_bell .nil pass0 (@pa_cons _ _ _ _ _ (@pe_ix _ _ _ _ _ _ _ ix_tup (pv 1) pe_int (λ_ _=>rfl)) pa_nil (by rfl))))) pss_nil)
     (@pss_cons _ _ _ _ _ (ps_if (pt_cmpR op_eq (pv 2) pe_str (nomark _)) (@pss_one _ _ _ (@ps_ret _ _ _ _ (pe_meth (pv 0) G.cl_Yard G.mt_Yard_do_lie c_Yard_do_lie (hr.mono (by decide)) G.b_Yard_do_lie .nil pass0 (@pa_cons _ _ _ _ _ (@pe_ix _ _ _ _ _ _ _ ix_tup (pv 1) pe_int (λ_ _=>rfl)) pa_nil (by rfl))))) pss_nil)
     (@pss_cons _ _ _ _ _ (ps_if (pt_cmpR op_eq (pv 2) pe_str (nomark _)) (@pss_one _ _ _ (@ps_ret _ _ _ _ (pe_meth (pv 0) G.cl_Yard G.mt_Yard_do_look c_Yard_do_look (hr.mono (by decide)) G.b_Yard_do_look .nil pass0 (@pa_cons _ _ _ _ _ (@pe_ix _ _ _ _ _ _ _ ix_tup (pv 1) pe_int (λ_ _=>rfl)) pa_nil (by rfl))))) pss_nil)
     (@pss_one _ _ _ (@ps_ret _ _ _ _ (pe_meth (pe_fld (pv 0) rfl) G.cl_Store G.mt_Store_drain c_Store_drain (hr.mono (by decide)) G.b_Store_drain .nil pass0 (@pa_cons _ _ _ _ _ (@pe_ix _ _ _ _ _ _ _ ix_tup (pv 1) pe_int (λ_ _=>rfl)) pa_nil (by rfl)))))))))))))),?_⟩
   refine ⟨_,rfl,mthE Rd.y.ob (yF_no (by decide +kernel)) ⟨_,rfl,y,q,S,x,t,rfl,Rd.y,Rd.ok,ht,hx,λH1 e1=>?_⟩⟩
   cases hc:x.chk q S with
   | some r =>
     rw [hc] at k
     exact k H1 e1
   | none =>
     rw [hc] at k
     have Rd1:Rdy w a H1 y q S L:=⟨Rd.y.same e1,Rd.ok,Rd.i,Rd.l⟩
     have k1:Bh w a y q (x.run q S).2 L (x.run q S).1 H1 Q:=λv H' Y' i' dv ko=>k v H' Y' i' dv (ko_y (KO.of_same e1) ko)
     have ht1:=e1 _ _ ht
     clear k ht Rd e1
     refine ⟨_,rfl,t,_,_,_,rfl,rfl,SqT.of ht1,by rw [x.vs_eq];exact atI_zero,?_⟩
     cases x with
     | ask wt =>
       refine ⟨_,rfl,rfl,_,rfl,iteC (decide_eq_true rfl) ?_⟩
       obtain ⟨c1,c2⟩:=chk_ask hc
       exact ⟨_,rfl,mthE Rd1.y.ob (yF_no (by decide +kernel)) ⟨_,rfl,t,_,_,_,rfl,rfl,SqT.of ht1,rfl,y,q,S,L,wt,rfl,Rd1,c1,c2,k1⟩⟩
     | collect =>
       refine ⟨_,rfl,rfl,_,rfl,iteN (by rw [decide_eq_true_eq];exact sne (show ¬ (("collect":Str)="ask") by decide +kernel)) ?_⟩
       refine ⟨_,rfl,rfl,_,rfl,iteC (decide_eq_true rfl) ?_⟩
       refine ⟨_,rfl,mthE Rd1.y.ob (yF_no (by decide +kernel)) ⟨_,rfl,fldE Rd1.y.ob G.cl_Yard G.na_Yard_hand yF_hand (mthE Rd1.y.x.hn.ob hF_collect ⟨y.z,y.sa,q.p,_,S.un,S.m,S.rs,rfl,Rd1.y.x.hn,Rd1.y.x.st,Rd1.ok.ok,by have:=Rd1.i.len false;have:=Rd1.l;omega,?_⟩)⟩⟩
       have rl:=Rd1.i.len
       have hsl:=Rd1.i.hl
       have ll:=Rd1.l
       unfold Dd.run at k1
       by_cases h0:aheadT q.p S.m (S.rs false) .answered .handed=0
       · rw [if_pos h0] at k1 ⊢
         exact ⟨y,q,S,"handed",.non,rfl,Rd1.y,by omega,.inl ⟨rfl,k1 .non H1 Rd1.y (Rd1.i.mono (by omega)) rfl (KO.refl _ _)⟩⟩
       · rw [if_neg h0] at k1 ⊢
         have rl2:∀ c,(setR S.rs false (S.rs false++[nextT q.p S.m (S.rs false) .handed]) c).length <= L+2:=len_set rl false (by rw [List.length_append];have:=rl false;show _+1 <= _;omega)
         cases hrd:rdP S.m (S.rs false) true (rdC S.m (S.rs false) .handed % q.p.s) with
         | none =>
           rw [hrd] at k1
           intro c H2 hc2 hn2 st2 kp2
           have Y2:=Rd1.y.parts (Rd1.y.x.hand hn2 st2 kp2) kp2 own5_h
           refine ⟨y,q,_,"handed",.ref c,rfl,Y2,by show S.hs.length < _;omega,.inr ⟨c,.non,.non,.none,.none,rfl,hc2,rfl,rfl,rfl,rfl,λH3 Y3 ko3 hc3=>k1 (.ref c) H3 Y3 ⟨Rd1.i.und,Rd1.i.tkd,rl2,?_⟩ ⟨c,_,rfl,hc3,_,_,rfl,rfl,_,_,rfl,rfl,rfl⟩ (ko_y (KO.of_kp kp2 λc hc=>.inr (.inl (own5_h c hc))) ko3)⟩⟩
           show (S.hs++[_]).length <= _
           rw [List.length_append];show _+1 <= _;omega
         | some nw =>
           rw [hrd] at k1
           intro c H2 hc2 hn2 st2 kp2
           have Y2:=Rd1.y.parts (Rd1.y.x.hand hn2 st2 kp2) kp2 own5_h
           refine ⟨y,q,_,"handed",.ref c,rfl,Y2,by show S.hs.length < _;omega,.inr ⟨c,.int nw.1,.int nw.2,.int nw.1,.int nw.2,rfl,hc2,rfl,rfl,rfl,rfl,λH3 Y3 ko3 hc3=>k1 (.ref c) H3 Y3 ⟨Rd1.i.und.filter,Rd1.i.tkd,rl2,?_⟩ (DV2 hc3) (ko_y (KO.of_kp kp2 λc hc=>.inr (.inl (own5_h c hc))) ko3)⟩⟩
           show (S.hs++[_]).length <= _
           rw [List.length_append];show _+1 <= _;omega
     | take =>
       refine ⟨_,rfl,rfl,_,rfl,iteN (by rw [decide_eq_true_eq];exact sne (show ¬ (("take":Str)="ask") by decide +kernel)) ?_⟩
       refine ⟨_,rfl,rfl,_,rfl,iteN (by rw [decide_eq_true_eq];exact sne (show ¬ (("take":Str)="collect") by decide +kernel)) ?_⟩
       refine ⟨_,rfl,rfl,_,rfl,iteC (decide_eq_true rfl) ?_⟩
       refine ⟨_,rfl,mthE Rd1.y.ob (yF_no (by decide +kernel)) ⟨_,rfl,fldE Rd1.y.ob G.cl_Yard G.na_Yard_heart yF_heart (mthE Rd1.y.x.tn.ob tF_take ⟨y.zt,y.sa,q.p,S.tk,S.m,S.rs,rfl,Rd1.y.x.tn,Rd1.y.x.st,Rd1.ok.ok,by have:=Rd1.i.tkd.len (by omega);omega,by have:=Rd1.i.len true;have:=Rd1.l;omega,?_⟩)⟩⟩
       have rl:=Rd1.i.len
       have hsl:=Rd1.i.hl
       have ll:=Rd1.l
       unfold Dd.run at k1
       by_cases h0:aheadT q.p S.m (S.rs true) .asked .taken=0
       · rw [if_pos h0] at k1 ⊢
         exact ⟨y,q,S,"taken",.non,rfl,Rd1.y,by omega,.inl ⟨rfl,k1 .non H1 Rd1.y (Rd1.i.mono (by omega)) rfl (KO.refl _ _)⟩⟩
       · rw [if_neg h0] at k1 ⊢
         have rl2:∀ c,(setR S.rs true (S.rs true++[nextT q.p S.m (S.rs true) .taken]) c).length <= L+2:=len_set rl true (by rw [List.length_append];have:=rl true;show _+1 <= _;omega)
         cases hrd:rdP S.m (S.rs true) false (rdC S.m (S.rs true) .taken % q.p.s) with
         | none =>
           rw [hrd] at k1
           intro c H2 hc2 tn2 st2 kp2
           have Y2:=Rd1.y.parts (Rd1.y.x.heart tn2 st2 kp2) kp2 own5_t
           refine ⟨y,q,_,"taken",.ref c,rfl,Y2,by show S.hs.length < _;omega,.inr ⟨c,.non,.non,.none,.none,rfl,hc2,rfl,rfl,rfl,rfl,λH3 Y3 ko3 hc3=>k1 (.ref c) H3 Y3 ⟨Rd1.i.und,Rd1.i.tkd,rl2,?_⟩ ⟨c,_,rfl,hc3,_,_,rfl,rfl,_,_,rfl,rfl,rfl⟩ (ko_y (KO.of_kp kp2 λc hc=>.inr (.inl (own5_t c hc))) ko3)⟩⟩
           show (S.hs++[_]).length <= _
           rw [List.length_append];show _+1 <= _;omega
         | some nw =>
           rw [hrd] at k1
           intro c H2 hc2 tn2 st2 kp2
           have Y2:=Rd1.y.parts (Rd1.y.x.heart tn2 st2 kp2) kp2 own5_t
           have nok:0 <= nw.1/\nw.1 < 9:=Rd1.y.x.st.names hrd
           refine ⟨y,q,_,"taken",.ref c,rfl,Y2,by show S.hs.length < _;omega,.inr ⟨c,.int nw.1,.int nw.2,.int nw.1,.int nw.2,rfl,hc2,rfl,rfl,rfl,rfl,λH3 Y3 ko3 hc3=>k1 (.ref c) H3 Y3 ⟨Rd1.i.und,Rd1.i.tkd.next nok,rl2,?_⟩ (DV2 hc3) (ko_y (KO.of_kp kp2 λc hc=>.inr (.inl (own5_t c hc))) ko3)⟩⟩
           show (S.hs++[_]).length <= _
           rw [List.length_append];show _+1 <= _;omega
     | answer nm wt =>
       refine ⟨_,rfl,rfl,_,rfl,iteN (by rw [decide_eq_true_eq];exact sne (show ¬ (("answer":Str)="ask") by decide +kernel)) ?_⟩
       refine ⟨_,rfl,rfl,_,rfl,iteN (by rw [decide_eq_true_eq];exact sne (show ¬ (("answer":Str)="collect") by decide +kernel)) ?_⟩
       refine ⟨_,rfl,rfl,_,rfl,iteN (by rw [decide_eq_true_eq];exact sne (show ¬ (("answer":Str)="take") by decide +kernel)) ?_⟩
       refine ⟨_,rfl,rfl,_,rfl,iteC (decide_eq_true rfl) ?_⟩
       obtain ⟨c1,c2⟩:=chk_ans hc
       exact ⟨_,rfl,mthE Rd1.y.ob (yF_no (by decide +kernel)) ⟨_,rfl,t,_,_,_,rfl,rfl,SqT.of ht1,rfl,_,rfl,t,_,_,_,rfl,rfl,SqT.of ht1,rfl,y,q,S,L,nm,wt,rfl,Rd1,c1,c2,k1⟩⟩
     | bell b =>
       refine ⟨_,rfl,rfl,_,rfl,iteN (by rw [decide_eq_true_eq];exact sne (show ¬ (("bell":Str)="ask") by decide +kernel)) ?_⟩
       refine ⟨_,rfl,rfl,_,rfl,iteN (by rw [decide_eq_true_eq];exact sne (show ¬ (("bell":Str)="collect") by decide +kernel)) ?_⟩
       refine ⟨_,rfl,rfl,_,rfl,iteN (by rw [decide_eq_true_eq];exact sne (show ¬ (("bell":Str)="take") by decide +kernel)) ?_⟩
       refine ⟨_,rfl,rfl,_,rfl,iteN (by rw [decide_eq_true_eq];exact sne (show ¬ (("bell":Str)="answer") by decide +kernel)) ?_⟩
       refine ⟨_,rfl,rfl,_,rfl,iteC (decide_eq_true rfl) ?_⟩
       exact ⟨_,rfl,mthE Rd1.y.ob (yF_no (by decide +kernel)) ⟨_,rfl,t,_,_,_,rfl,rfl,SqT.of ht1,rfl,y,q,S,L,b,rfl,Rd1,k1⟩⟩
     | lie b =>
       refine ⟨_,rfl,rfl,_,rfl,iteN (by rw [decide_eq_true_eq];exact sne (show ¬ (("lie":Str)="ask") by decide +kernel)) ?_⟩
       refine ⟨_,rfl,rfl,_,rfl,iteN (by rw [decide_eq_true_eq];exact sne (show ¬ (("lie":Str)="collect") by decide +kernel)) ?_⟩
       refine ⟨_,rfl,rfl,_,rfl,iteN (by rw [decide_eq_true_eq];exact sne (show ¬ (("lie":Str)="take") by decide +kernel)) ?_⟩
       refine ⟨_,rfl,rfl,_,rfl,iteN (by rw [decide_eq_true_eq];exact sne (show ¬ (("lie":Str)="answer") by decide +kernel)) ?_⟩
       refine ⟨_,rfl,rfl,_,rfl,iteN (by rw [decide_eq_true_eq];exact sne (show ¬ (("lie":Str)="bell") by decide +kernel)) ?_⟩
       refine ⟨_,rfl,rfl,_,rfl,iteC (decide_eq_true rfl) ?_⟩
       exact ⟨_,rfl,mthE Rd1.y.ob (yF_no (by decide +kernel)) ⟨_,rfl,t,_,_,_,rfl,rfl,SqT.of ht1,rfl,y,q,S,L,b,rfl,Rd1,k1⟩⟩
     | look b =>
       refine ⟨_,rfl,rfl,_,rfl,iteN (by rw [decide_eq_true_eq];exact sne (show ¬ (("look":Str)="ask") by decide +kernel)) ?_⟩
       refine ⟨_,rfl,rfl,_,rfl,iteN (by rw [decide_eq_true_eq];exact sne (show ¬ (("look":Str)="collect") by decide +kernel)) ?_⟩
       refine ⟨_,rfl,rfl,_,rfl,iteN (by rw [decide_eq_true_eq];exact sne (show ¬ (("look":Str)="take") by decide +kernel)) ?_⟩
       refine ⟨_,rfl,rfl,_,rfl,iteN (by rw [decide_eq_true_eq];exact sne (show ¬ (("look":Str)="answer") by decide +kernel)) ?_⟩
       refine ⟨_,rfl,rfl,_,rfl,iteN (by rw [decide_eq_true_eq];exact sne (show ¬ (("look":Str)="bell") by decide +kernel)) ?_⟩
       refine ⟨_,rfl,rfl,_,rfl,iteN (by rw [decide_eq_true_eq];exact sne (show ¬ (("look":Str)="lie") by decide +kernel)) ?_⟩
       refine ⟨_,rfl,rfl,_,rfl,iteC (decide_eq_true rfl) ?_⟩
       exact ⟨_,rfl,mthE Rd1.y.ob (yF_no (by decide +kernel)) ⟨_,rfl,t,_,_,_,rfl,rfl,SqT.of ht1,rfl,y,q,S,L,b,rfl,Rd1,k1⟩⟩
     | drain b =>
       refine ⟨_,rfl,rfl,_,rfl,iteN (by rw [decide_eq_true_eq];exact sne (show ¬ (("drain":Str)="ask") by decide +kernel)) ?_⟩
       refine ⟨_,rfl,rfl,_,rfl,iteN (by rw [decide_eq_true_eq];exact sne (show ¬ (("drain":Str)="collect") by decide +kernel)) ?_⟩
       refine ⟨_,rfl,rfl,_,rfl,iteN (by rw [decide_eq_true_eq];exact sne (show ¬ (("drain":Str)="take") by decide +kernel)) ?_⟩
       refine ⟨_,rfl,rfl,_,rfl,iteN (by rw [decide_eq_true_eq];exact sne (show ¬ (("drain":Str)="answer") by decide +kernel)) ?_⟩
       refine ⟨_,rfl,rfl,_,rfl,iteN (by rw [decide_eq_true_eq];exact sne (show ¬ (("drain":Str)="bell") by decide +kernel)) ?_⟩
       refine ⟨_,rfl,rfl,_,rfl,iteN (by rw [decide_eq_true_eq];exact sne (show ¬ (("drain":Str)="lie") by decide +kernel)) ?_⟩
       refine ⟨_,rfl,rfl,_,rfl,iteN (by rw [decide_eq_true_eq];exact sne (show ¬ (("drain":Str)="look") by decide +kernel)) ?_⟩
       obtain ⟨x,rest,hb⟩:=chk_drain hc
       have rl:=Rd1.i.len
       have k2:Bh w a y q { S with m:=S.m.put x,rs:=setR S.rs b rest } L .none H1 Q:=by
         have e:(Dd.drain b).run q S=(.none,{ S with m:=S.m.put x,rs:=setR S.rs b rest }):=by
           show (match S.rs b with | x :: rest=>_ | []=>_)=_
           rw [hb]
         rw [e] at k1;exact k1
       refine ⟨_,rfl,fldE Rd1.y.ob G.cl_Yard G.na_Yard_shelf yF_shelf (mthE Rd1.y.x.st.ob (stF_no (by decide +kernel) (by decide +kernel)) ⟨_,rfl,t,_,_,_,rfl,rfl,SqT.of ht1,rfl,y.sa,S.m,S.rs,b,x,rest,rfl,Rd1.y.x.st,hb,λH2 st2 kp2=>?_⟩)⟩
       refine k2 .non H2 (Rd1.y.parts (Rd1.y.x.store st2 kp2) kp2 own5_s) ⟨Rd1.i.und,Rd1.i.tkd,len_set rl b (by have:=rl b;rw [hb,List.length_cons] at this;omega),by have:=Rd1.i.hl;show S.hs.length <= _;omega⟩ rfl (ko_s kp2)
end

def sp_codes:Sp:=λvs H Q _=>∃ (b:Addr) (ns:List Int) (m:Nat),vs=[.ref b,.int m]/\H b=some (.lst (ns.map V.int))/\ns.length <= 63/\∀ (p:Addr) (cs:List Int) (H':Hp),Same H H'->H p=none->H' p=some (.lst (cs.map V.int))->cs.length <= m->(∀ c∈cs,0 <= c/\c < 1000000)->Q (.ref p) H'
theorem e6p:(10:Int) ^ (6:Int).toNat=1000000:=by decide
theorem div6 {r:Int} {n:Nat} (h0:0 < r) (h1:r < 1000000 ^ n):∃ m,n=m+1/\0 <= r / 1000000/\r / 1000000 < 1000000 ^ m:=by
 cases n with
 | zero=>rw [Int.pow_zero] at h1;omega
 | succ m =>
   refine ⟨m,rfl,by omega,?_⟩
   rw [Int.pow_succ] at h1
   exact Int.ediv_lt_of_lt_mul (by decide) h1
theorem snocI {cs:List Int} {c:Int}:(cs.map V.int)++[V.int c]=(cs++[c]).map V.int:=by rw [List.map_append];rfl
theorem codeOk {cs:List Int} {r:Int} (h:∀ c∈cs,0 <= c/\c < 1000000):∀ c∈cs++[r % 1000000],0 <= c/\c < 1000000:=λc hc=>by
 rcases List.mem_append.mp hc with y | y
 · exact h c y
 · rw [List.mem_singleton.mp y];exact ⟨Int.emod_nonneg _ (by decide),Int.emod_lt_of_pos _ (by decide)⟩
section
variable {P:Program} {w:World} {K:PySem.W.Frag} {mg:Str->Option Value} {base:Heap} {a:Ad} {d:Fd}
theorem ok_codes (G:Gs K mg a d):FnOk P w K mg base CX0 1 a.law_codes d.law_codes ["cells","most"] sp_codes:=by
 refine G.f_law_codes.ok sc_law_codes (λvs H Q E h=>?_) (λcdv A' outer s' H vs Q E hr h=>?_)
 · obtain ⟨b,ns,m,rfl,_⟩:=h
   rfl
 · obtain ⟨b,ns,m,rfl,hb,hl,k⟩:=h
   refine ⟨_,(@pss_cons _ _ _ _ _ (@ps_set _ _ 2 _ _ _ _ sc_law_codes.nd rfl (Or.inl rfl) (@pe_lst _ _ _ _ pa_nil) (by rfl) (by first | exact .inl rfl | exact .inr rfl | assumption))
     (@pss_cons _ _ _ _ _ (ps_for PassesOwn.never rfl (pi_list (pv 0)) (pg_name (i:=3) sc_law_codes.nd rfl (Or.inl rfl)) (@pss_cons _ _ _ _ _ (@ps_set _ _ 4 _ _ _ _ sc_law_codes.nd rfl (Or.inl rfl) (@pe_op _ _ _ _ _ _ _ _ op_mod (pv 3) (@pe_op _ _ _ _ _ _ _ _ op_pow pe_int pe_int)) (by rfl) (by first | exact .inl rfl | exact .inr rfl | assumption))
     (@pss_cons _ _ _ _ _ (@ps_expr _ _ _ _ (@pe_bm _ _ _ _ _ _ _ _ _ _ _ _ PySem.F.plainAttrs_list PySem.F.slot_list_append PySem.F.type_list_append mt_append (pv 2) (@pa_cons _ _ _ _ _ (@pe_op _ _ _ _ _ _ _ _ op_mod (pv 4) (@pe_op _ _ _ _ _ _ _ _ op_pow pe_int pe_int)) pa_nil (by rfl)) (by rfl) (by rfl) (by rfl) (by rfl) (by rfl)) (by rfl))
     (@pss_cons _ _ _ _ _ (@ps_set _ _ 4 _ _ _ _ sc_law_codes.nd rfl (Or.inl rfl) (@pe_op _ _ _ _ _ _ _ _ op_fdivB (pv 4) (@pe_op _ _ _ _ _ _ _ _ op_pow pe_int pe_int)) (by rfl) (by first | exact .inl rfl | exact .inr rfl | assumption))
     (@pss_one _ _ _ (ps_while PassesOwn.never (pt_cmpR op_gt (pv 4) pe_int (nomark _)) (@pss_cons _ _ _ _ _ (@ps_expr _ _ _ _ (@pe_bm _ _ _ _ _ _ _ _ _ _ _ _ PySem.F.plainAttrs_list PySem.F.slot_list_append PySem.F.type_list_append mt_append (pv 2) (@pa_cons _ _ _ _ _ (@pe_op _ _ _ _ _ _ _ _ op_mod (pv 4) (@pe_op _ _ _ _ _ _ _ _ op_pow pe_int pe_int)) pa_nil (by rfl)) (by rfl) (by rfl) (by rfl) (by rfl) (by rfl)) (by rfl))
     (@pss_one _ _ _ (@ps_set _ _ 4 _ _ _ _ sc_law_codes.nd rfl (Or.inl rfl) (@pe_op _ _ _ _ _ _ _ _ op_fdivB (pv 4) (@pe_op _ _ _ _ _ _ _ _ op_pow pe_int pe_int)) (by rfl) (by first | exact .inl rfl | exact .inr rfl | assumption))))))))))
     (@pss_one _ _ _ (@ps_ret _ _ _ _ (pe_slice sl_list (pv 2) po_none (po_some (pv 1))))))),?_⟩
   refine ⟨len0v,λp hp=>?_⟩
   have e1:=same_new (o:=.lst []) hp
   have v1:upd H p (.lst []) p=some (.lst (([]:List Int).map V.int)):=upd_same
   generalize upd H p (.lst [])=H1 at e1 v1 ⊢
   have nb:b≠p:=λz=>by rw [z,hp] at hb;cases hb
   refine ⟨_,rfl,b,rfl,⟨_,SqL.of (e1 _ _ hb)⟩,?_⟩
   refine for_list (K:=K) (a:=b) (xs:=ns.map V.int) (λi σ H2=>∃ (cs:List Int),(∃ v3 v4,σ=[some (.ref b),some (.int m),some (.ref p),v3,v4])/\cs.length <= 10 * i/\(∀ c∈cs,0 <= c/\c < 1000000)/\H2 p=some (.lst (cs.map V.int))/\(∀ c o,c≠p->H1 c=some o->H2 c=some o))
     ⟨[],⟨_,_,rfl⟩,Nat.le_refl _,(λ_ z=>absurd z List.not_mem_nil),v1,λ_ _ _ e=>e⟩ (λ_ _ _ _ ⟨_,_,_,_,_,z⟩=>SqL.of (z _ _ nb (e1 _ _ hb))) ?_ ?_
   · rintro i x σ H2 hi ⟨cs,⟨v3,v4,rfl⟩,cl,cok,v2,k2⟩
     have hi6:i < 63:=by have:=(List.getElem?_eq_some_iff.mp hi).1;rw [List.length_map] at this;omega
     obtain ⟨c,rfl⟩:∃ c,x=.int c:=by
       rw [List.getElem?_map] at hi
       cases e:ns[i]? with
       | none=>rw [e] at hi;cases hi
       | some c=>rw [e] at hi;cases hi;exact ⟨c,rfl⟩
     refine ⟨_,rfl,_,_,rfl,rfl,⟨by decide,by decide,by decide⟩,_,_,rfl,rfl,by show (0:Int) < 10 ^ (60:Int).toNat;decide,?_⟩
     obtain ⟨r0,hr0⟩:∃ r0,r0=c % 10 ^ (60:Int).toNat:=⟨_,rfl⟩
     have r0n:0 <= r0:=by rw [hr0];exact Int.emod_nonneg _ (by decide)
     have r0l:r0 < 1000000 ^ 10:=by rw [hr0];exact Int.emod_lt_of_pos _ (by decide)
     show gName 4 (V.int (c % 10 ^ (60:Int).toNat)) _ _ _
     rw [← hr0]
     refine ⟨_,rfl,.inl ⟨rfl,_,SqL.of v2⟩,_,rfl,_,_,rfl,rfl,⟨by decide,by decide,by decide⟩,_,_,rfl,rfl,by show (0:Int) < 10 ^ (6:Int).toNat;decide,p,_,_,rfl,rfl,v2,Nat.lt_of_lt_of_le (show _ < 1000 by rw [List.length_map];omega) (by decide),?_⟩
     refine ⟨_,rfl,_,_,rfl,rfl,⟨by decide,by decide,by decide⟩,_,_,rfl,rfl,by rw [e6p];exact ⟨by decide,by decide⟩,?_⟩
     refine ⟨λn σ H3=>∃ (cs:List Int) (r:Int),σ=[some (.ref b),some (.int m),some (.ref p),some (.int c),some (.int r)]/\0 <= r/\r < 1000000 ^ n/\cs.length+n <= 10 * (i+1)/\(∀ c∈cs,0 <= c/\c < 1000000)/\H3 p=some (.lst (cs.map V.int))/\(∀ c o,c≠p->H1 c=some o->H3 c=some o),
       ⟨9,cs++[r0 % 1000000],r0 / 1000000,by rw [← e6p];rfl,by omega,Int.ediv_lt_of_lt_mul (by decide) (Int.lt_of_lt_of_le r0l (by decide)),by rw [List.length_append];show _+1+9 <= _;omega,codeOk cok,by rw [upd_same,← snocI,← e6p],λc o n e=>by rw [upd_ne n];exact k2 c o n e⟩,?_⟩
     rintro n σ H3 ⟨cs3,r,rfl,rn,rl,cl3,cok3,v3,k3⟩
     refine ⟨_,rfl,_,_,rfl,rfl,_,rfl,?_⟩
     refine ite2 (λhgo=>?_) (λhstop=>?_)
     · have hr:0 < r:=of_decide_eq_true hgo
       obtain ⟨n',rfl,q0,q1⟩:=div6 hr rl
       refine ⟨_,λσ' H' z=>z,?_⟩
       refine ⟨_,rfl,.inl ⟨rfl,_,SqL.of v3⟩,_,rfl,_,_,rfl,rfl,⟨by decide,by decide,by decide⟩,_,_,rfl,rfl,by show (0:Int) < 10 ^ (6:Int).toNat;decide,p,_,_,rfl,rfl,v3,Nat.lt_of_lt_of_le (show _ < 1000 by rw [List.length_map];omega) (by decide),?_⟩
       refine ⟨_,rfl,_,_,rfl,rfl,⟨by decide,by decide,by decide⟩,_,_,rfl,rfl,by rw [e6p];exact ⟨by decide,by decide⟩,?_⟩
       exact ⟨n',Nat.lt_succ_self _,cs3++[r % 1000000],r / 1000000,by rw [← e6p];rfl,q0,q1,by rw [List.length_append];show _+1+n' <= _;omega,codeOk cok3,by rw [upd_same,← snocI,← e6p],λc o n e=>by rw [upd_ne n];exact k3 c o n e⟩
     · exact ⟨cs3,⟨_,_,rfl⟩,by omega,cok3,v3,k3⟩
   · rintro σ H2 ⟨cs,⟨v3,v4,rfl⟩,cl,cok,v2,k2⟩
     refine ⟨_,rfl,_,rfl,(m:Int),rfl,p,_,rfl,SqL.of v2,λq hq=>?_⟩
     have e2:Same H H2:=λc o e=>k2 c o (ne_of_none e hp) (e1 _ _ e)
     rw [cutV_toY,← List.map_take]
     exact k q (cs.take m) _ (e2.trans (same_new hq)) (none_back e2 hq) upd_same (by rw [List.length_take];omega) λc hc=>cok c (List.mem_of_mem_take hc)
end
def sp_lworth:Sp:=λvs H Q _=>∃ c:Int,vs=[.int c]/\0 <= c/\c < 1000000/\∀ (g:Int) (H':Hp),-1000000000 <= g->g <= 1000000000->Same H H'->Q (.int g) H'
def sp_ldeed:Sp:=λvs H Q _=>∃ (c:Int) (p:Addr) (ts:List Int),vs=[.int c,.ref p]/\0 <= c/\c < 1000000/\H p=some (.lst (ts.map V.int))/\∀ (x:Dd) (t:Addr) (H':Hp),x.Ok->H t=none->H' t=some (.tup x.vs)->Same H H'->Q (.ref t) H'
section
variable {P:Program} {w:World} {K:PySem.W.Frag} {mg:Str->Option Value} {base:Heap} {a:Ad} {d:Fd}
theorem ok_lworth (G:Gs K mg a d):FnOk P w K mg base CX0 1 a.law_worth d.law_worth ["code"] sp_lworth:=by
 refine G.f_law_worth.ok sc_law_worth (λvs H Q E h=>?_) (λcdv A' outer s' H vs Q E hr h=>?_)
 · obtain ⟨c,rfl,_⟩:=h
   rfl
 · obtain ⟨c,rfl,c0,c1,k⟩:=h
   refine ⟨_,(@pss_cons _ _ _ _ _ (ps_if (pt_cmpR op_eq (@pe_op _ _ _ _ _ _ _ _ op_mod (pv 0) pe_int) pe_int (nomark _)) (@pss_one _ _ _ (@ps_ret _ _ _ _ (@pe_op _ _ _ _ _ _ _ _ op_sub (@pe_op _ _ _ _ _ _ _ _ op_mod (@pe_op _ _ _ _ _ _ _ _ op_fdivB (pv 0) pe_int) pe_int) pe_int))) pss_nil)
     (@pss_cons _ _ _ _ _ (ps_if (pt_cmpR op_eq (@pe_op _ _ _ _ _ _ _ _ op_mod (pv 0) pe_int) pe_int (nomark _)) (@pss_one _ _ _ (@ps_ret _ _ _ _ (@pe_op _ _ _ _ _ _ _ _ op_sub (@pe_op _ _ _ _ _ _ _ _ op_mod (@pe_op _ _ _ _ _ _ _ _ op_mul (pv 0) pe_int) (@pe_op _ _ _ _ _ _ _ _ op_add (@pe_op _ _ _ _ _ _ _ _ op_mul pe_int (@pe_op _ _ _ _ _ _ _ _ op_pow pe_int pe_int)) pe_int)) (@pe_op _ _ _ _ _ _ _ _ op_pow pe_int pe_int)))) pss_nil)
     (@pss_one _ _ _ (@ps_ret _ _ _ _ (@pe_ix _ _ _ _ _ _ _ ix_list (@pe_lst _ _ _ _ (@pa_cons _ _ _ _ _ (@pe_op _ _ _ _ _ _ _ _ op_pow pe_int pe_int) (@pa_cons _ _ _ _ _ (pe_un un_neg (@pe_op _ _ _ _ _ _ _ _ op_pow pe_int pe_int)) (@pa_cons _ _ _ _ _ pe_int (@pa_cons _ _ _ _ _ pe_int pa_nil (by rfl)) (by rfl)) (by rfl)) (by rfl))) (@pe_op _ _ _ _ _ _ _ _ op_mod (@pe_op _ _ _ _ _ _ _ _ op_fdivB (pv 0) pe_int) pe_int) (λ_ _=>rfl)))))),?_⟩
   have e9:(10:Int) ^ (9:Int).toNat=1000000000:=by decide
   refine ⟨_,rfl,_,_,rfl,rfl,(show (0:Int) < 3 from by decide),rfl,_,rfl,?_⟩
   refine ite2 (λ_=>?_) (λ_=>?_)
   · refine ⟨_,rfl,_,_,rfl,rfl,⟨by decide,by decide⟩,_,_,rfl,rfl,(show (0:Int) < 9 from by decide),_,_,rfl,rfl,?_⟩
     exact k _ _ (by show -1000000000 <= c / 3 % 9 - 4;omega) (by show c / 3 % 9 - 4 <= _;omega) λ_ _ e=>e
   · refine ⟨_,rfl,_,_,rfl,rfl,(show (0:Int) < 3 from by decide),rfl,_,rfl,?_⟩
     refine ite2 (λ_=>?_) (λ_=>?_)
     · refine ⟨_,rfl,_,_,rfl,rfl,cmul_nn c0 (by omega),?_⟩
       refine ⟨_,_,rfl,rfl,⟨by decide,by decide,by decide⟩,_,_,rfl,rfl,cmul_nn (by decide) (by decide),_,_,rfl,rfl,_,_,rfl,rfl,by show (0:Int) < 2 * 10 ^ (9:Int).toNat+1;decide,_,_,rfl,rfl,⟨by decide,by decide,by decide⟩,_,_,rfl,rfl,?_⟩
       have f0:=Int.emod_nonneg (c * 2001) (show (2 * 10 ^ (9:Int).toNat+1:Int)≠0 by decide)
       have f1:=Int.emod_lt_of_pos (c * 2001) (show (0:Int) < 2 * 10 ^ (9:Int).toNat+1 by decide)
       rw [e9] at f0 f1
       exact k _ _ (by show _ <= c * 2001 % (2 * 10 ^ (9:Int).toNat+1) - 10 ^ (9:Int).toNat;rw [e9];omega) (by show c * 2001 % (2 * 10 ^ (9:Int).toNat+1) - 10 ^ (9:Int).toNat <= _;rw [e9];omega) λ_ _ e=>e
     · refine ⟨_,_,rfl,rfl,⟨by decide,by decide,by decide⟩,_,_,rfl,rfl,⟨by decide,by decide,by decide⟩,_,rfl,(by show 4 <= sizeLine;decide),λp hp=>?_⟩
       refine ⟨_,rfl,_,_,rfl,rfl,⟨by decide,by decide⟩,_,_,rfl,rfl,(show (0:Int) < 4 from by decide),?_⟩
       have g0:=Int.emod_nonneg (c / 3) (show (4:Int)≠0 by decide)
       have g1:=Int.emod_lt_of_pos (c / 3) (show (0:Int) < 4 by decide)
       obtain ⟨v,hv,v0,v1⟩:∃ v:Int,atI [V.int (10 ^ (9:Int).toNat),V.int (-(10 ^ (9:Int).toNat)),V.int 0,V.int 1] (c / 3 % 4)=some (.int v)/\-1000000000 <= v/\v <= 1000000000:=by
         have:c / 3 % 4=0\/c / 3 % 4=1\/c / 3 % 4=2\/c / 3 % 4=3:=by omega
         rcases this with h | h | h | h<;>rw [h]
         · exact ⟨_,rfl,by rw [e9];omega,by rw [e9];omega⟩
         · exact ⟨_,rfl,by rw [e9];omega,by rw [e9];omega⟩
         · exact ⟨_,rfl,by omega,by omega⟩
         · exact ⟨_,rfl,by omega,by omega⟩
       exact ⟨p,_,_,_,rfl,rfl,SqL.of upd_same,hv,k v _ v0 v1 (same_new hp)⟩
theorem w9 {g:Int} (h0:0 <= g) (h1:g < 9):∃ wd:Str,atI [V.str "ask",V.str "ask",V.str "ask",V.str "collect",V.str "collect",V.str "take",V.str "take",V.str "answer",V.str "answer"] g=some (.str wd)/\(wd="ask"\/wd="collect"\/wd="take"\/wd="answer"):=by
 have:g=0\/g=1\/g=2\/g=3\/g=4\/g=5\/g=6\/g=7\/g=8:=by omega
 rcases this with rfl | rfl | rfl | rfl | rfl | rfl | rfl | rfl | rfl
 · exact ⟨_,rfl,.inl rfl⟩
 · exact ⟨_,rfl,.inl rfl⟩
 · exact ⟨_,rfl,.inl rfl⟩
 · exact ⟨_,rfl,.inr (.inl rfl)⟩
 · exact ⟨_,rfl,.inr (.inl rfl)⟩
 · exact ⟨_,rfl,.inr (.inr (.inl rfl))⟩
 · exact ⟨_,rfl,.inr (.inr (.inl rfl))⟩
 · exact ⟨_,rfl,.inr (.inr (.inr rfl))⟩
 · exact ⟨_,rfl,.inr (.inr (.inr rfl))⟩
theorem w7 {g:Int} (h0:0 <= g) (h1:g < 7) (b:Bool):∃ (wd:Str) (x:Dd),atI [V.str "bell",V.str "bell",V.str "lie",V.str "look",V.str "drain",V.str "drain",V.str "drain"] g=some (.str wd)/\x.vs=[.str wd,.int (sdI b)]/\x.Ok:=by
 have:g=0\/g=1\/g=2\/g=3\/g=4\/g=5\/g=6:=by omega
 rcases this with rfl | rfl | rfl | rfl | rfl | rfl | rfl
 · exact ⟨_,.bell b,rfl,rfl,trivial⟩
 · exact ⟨_,.bell b,rfl,rfl,trivial⟩
 · exact ⟨_,.lie b,rfl,rfl,trivial⟩
 · exact ⟨_,.look b,rfl,rfl,trivial⟩
 · exact ⟨_,.drain b,rfl,rfl,trivial⟩
 · exact ⟨_,.drain b,rfl,rfl,trivial⟩
 · exact ⟨_,.drain b,rfl,rfl,trivial⟩
theorem two_sd {g:Int}:∃ b,g % 2=sdI b:=by
 have:=Int.emod_nonneg g (show (2:Int)≠0 by decide)
 have:=Int.emod_lt_of_pos g (show (0:Int) < 2 by decide)
 by_cases h:g % 2=0
 · exact ⟨false,h⟩
 · exact ⟨true,by show g % 2=1;omega⟩
theorem ok_ldeed (G:Gs K mg a d):FnOk P w K mg base CX0 2 a.law_deed d.law_deed ["code","tasks"] sp_ldeed:=by
 have c_law_worth:FnOk P w K mg base CX0 1 _ _ _ _:=ok_lworth G
 refine G.f_law_deed.ok sc_law_deed (λvs H Q E h=>?_) (λcdv A' outer s' H vs Q E hr h=>?_)
 · obtain ⟨c,p,ts,rfl,_⟩:=h
   rfl
 · obtain ⟨c,p,ts,rfl,c0,c1,hp,k⟩:=h
   have hu:=hu_of hr
   refine ⟨_,(@pss_cons _ _ _ _ _ (@ps_set _ _ 2 _ _ _ _ sc_law_deed.nd rfl (Or.inl rfl) (@pe_ix _ _ _ _ _ _ _ ix_list (@pe_lst _ _ _ _ (@pa_cons _ _ _ _ _ pe_str (@pa_cons _ _ _ _ _ pe_str (@pa_cons _ _ _ _ _ pe_str (@pa_cons _ _ _ _ _ pe_str (@pa_cons _ _ _ _ _ pe_str (@pa_cons _ _ _ _ _ pe_str (@pa_cons _ _ _ _ _ pe_str (@pa_cons _ _ _ _ _ pe_str (@pa_cons _ _ _ _ _ pe_str pa_nil (by rfl)) (by rfl)) (by rfl)) (by rfl)) (by rfl)) (by rfl)) (by rfl)) (by rfl)) (by rfl))) (@pe_op _ _ _ _ _ _ _ _ op_mod (@pe_op _ _ _ _ _ _ _ _ op_mod (pv 0) pe_int) pe_int) (λ_ _=>rfl)) (by rfl) (by first | exact .inl rfl | exact .inr rfl | assumption))
     (@pss_cons _ _ _ _ _ (@ps_set _ _ 3 _ _ _ _ sc_law_deed.nd rfl (Or.inl rfl) (@pe_op _ _ _ _ _ _ _ _ op_mod (@pe_op _ _ _ _ _ _ _ _ op_fdivB (pv 0) pe_int) pe_int) (by rfl) (by first | exact .inl rfl | exact .inr rfl | assumption))
     (@pss_cons _ _ _ _ _ (ps_if (pt_cmpR op_gt (@pe_op _ _ _ _ _ _ _ _ op_mod (pv 0) pe_int) pe_int (nomark _)) (@pss_one _ _ _ (@ps_ret _ _ _ _ (@pe_tup _ _ _ _ _ (@pa_cons _ _ _ _ _ (@pe_ix _ _ _ _ _ _ _ ix_list (@pe_lst _ _ _ _ (@pa_cons _ _ _ _ _ pe_str (@pa_cons _ _ _ _ _ pe_str (@pa_cons _ _ _ _ _ pe_str (@pa_cons _ _ _ _ _ pe_str (@pa_cons _ _ _ _ _ pe_str (@pa_cons _ _ _ _ _ pe_str (@pa_cons _ _ _ _ _ pe_str pa_nil (by rfl)) (by rfl)) (by rfl)) (by rfl)) (by rfl)) (by rfl)) (by rfl))) (@pe_op _ _ _ _ _ _ _ _ op_sub (@pe_op _ _ _ _ _ _ _ _ op_mod (pv 0) pe_int) pe_int) (λ_ _=>rfl)) (@pa_cons _ _ _ _ _ (pv 3) pa_nil (by rfl)) (by rfl))))) pss_nil)
     (@pss_cons _ _ _ _ _ (ps_if (pt_cmpR op_eq (pv 2) pe_str (nomark _)) (@pss_one _ _ _ (@ps_ret _ _ _ _ (@pe_tup _ _ _ _ _ (@pa_cons _ _ _ _ _ (pv 2) (@pa_cons _ _ _ _ _ (pe_call c_law_worth (hr.mono (by decide)) (by rfl) G.m_law_worth G.f_law_worth.kp G.b_law_worth .nil pass0 (@pa_cons _ _ _ _ _ (@pe_op _ _ _ _ _ _ _ _ op_fdivB (pv 0) pe_int) pa_nil (by rfl))) pa_nil (by rfl)) (by rfl))))) pss_nil)
     (@pss_cons _ _ _ _ _ (ps_if (pt_cmpR op_ne (pv 2) pe_str (nomark _)) (@pss_one _ _ _ (@ps_ret _ _ _ _ (@pe_tup _ _ _ _ _ (@pa_cons _ _ _ _ _ (pv 2) pa_nil (by rfl))))) pss_nil)
     (@pss_cons _ _ _ _ _ (@ps_set _ _ 4 _ _ _ _ sc_law_deed.nd rfl (Or.inl rfl) (@pe_op _ _ _ _ _ _ _ _ op_mod (@pe_op _ _ _ _ _ _ _ _ op_fdivB (pv 0) pe_int) pe_int) (by rfl) (by first | exact .inl rfl | exact .inr rfl | assumption))
     (@pss_cut _ _ _ _ _ (ps_if (pt_cmpR (op_neNil hr.units) (pv 1) (@pe_lst _ _ _ _ pa_nil) (nomark _)) (@pss_one _ _ _ (@ps_set _ _ 4 _ _ _ _ sc_law_deed.nd rfl (Or.inl rfl) (@pe_ix _ _ _ _ _ _ _ ix_list (pv 1) (@pe_op _ _ _ _ _ _ _ _ op_mod (@pe_op _ _ _ _ _ _ _ _ op_fdivB (pv 0) pe_int) (pe_callB call_len_seq (by rfl) G.n_len bt_len (@pa_cons _ _ _ _ _ (pv 1) pa_nil (by rfl)))) (λ_ _=>rfl)) (by rfl) (by first | exact .inl rfl | exact .inr rfl | assumption))) pss_nil)
     (@pss_one _ _ _ (@ps_ret _ _ _ _ (@pe_tup _ _ _ _ _ (@pa_cons _ _ _ _ _ (pv 2) (@pa_cons _ _ _ _ _ (pv 4) (@pa_cons _ _ _ _ _ (pe_call c_law_worth (hr.mono (by decide)) (by rfl) G.m_law_worth G.f_law_worth.kp G.b_law_worth .nil pass0 (@pa_cons _ _ _ _ _ (@pe_op _ _ _ _ _ _ _ _ op_fdivB (pv 0) pe_int) pa_nil (by rfl))) pa_nil (by rfl)) (by rfl)) (by rfl)))))))))))),?_⟩
   have n0:=Int.emod_nonneg c (show (16:Int)≠0 by decide)
   have n1:=Int.emod_lt_of_pos c (show (0:Int) < 16 by decide)
   refine ⟨by show 9 <= sizeLine;decide,λq hq=>⟨_,rfl,_,_,rfl,rfl,(show (0:Int) < 16 from by decide),_,_,rfl,rfl,(show (0:Int) < 9 from by decide),?_⟩⟩
   obtain ⟨wd,hwd,wdc⟩:=w9 (Int.emod_nonneg (c % 16) (show (9:Int)≠0 by decide)) (Int.emod_lt_of_pos (c % 16) (show (0:Int) < 9 by decide))
   refine ⟨q,_,_,_,rfl,rfl,SqL.of upd_same,hwd,?_⟩
   have e1:=same_new (o:=.lst [V.str "ask",V.str "ask",V.str "ask",V.str "collect",V.str "collect",V.str "take",V.str "take",V.str "answer",V.str "answer"]) hq
   generalize upd H q (.lst [V.str "ask",V.str "ask",V.str "ask",V.str "collect",V.str "collect",V.str "take",V.str "take",V.str "answer",V.str "answer"])=H1 at e1 ⊢
   refine ⟨_,rfl,_,_,rfl,rfl,⟨by decide,by decide⟩,_,_,rfl,rfl,(show (0:Int) < 2 from by decide),?_⟩
   obtain ⟨b,hb⟩:=two_sd (g:=c / 16)
   refine ⟨_,rfl,_,_,rfl,rfl,(show (0:Int) < 16 from by decide),_,_,rfl,rfl,_,rfl,?_⟩
   have c16:0 <= c / 16/\c / 16 < 1000000:=⟨by omega,by omega⟩
   refine ite2 (λhg=>?_) (λ_=>?_)
   · have hg:8 < c % 16:=of_decide_eq_true hg
     refine ⟨by show 7 <= sizeLine;decide,λq2 hq2=>⟨_,rfl,_,_,rfl,rfl,(show (0:Int) < 16 from by decide),_,_,rfl,rfl,?_⟩⟩
     obtain ⟨wd2,x,hw2,xv,xo⟩:=w7 (g:=c % 16 - 9) (by omega) (by omega) b
     refine ⟨q2,_,_,_,rfl,rfl,SqL.of upd_same,hw2,_,rfl,l2,λt ht=>?_⟩
     have e2:=same_new (o:=.lst [V.str "bell",V.str "bell",V.str "lie",V.str "look",V.str "drain",V.str "drain",V.str "drain"]) hq2
     exact k x t _ xo (none_back (e1.trans e2) ht) (by rw [upd_same,xv,← hb]) ((e1.trans e2).trans (same_new ht))
   refine ⟨_,rfl,rfl,_,rfl,?_⟩
   refine ite2 (λhg=>?_) (λhn1=>?_)
   · have hg:wd="ask":=by have:=of_decide_eq_true hg;injection this
     refine ⟨_,rfl,_,rfl,_,_,rfl,rfl,⟨by decide,by decide⟩,c / 16,rfl,c16.1,c16.2,λg H2 g0 g1 e2=>⟨l2,λt ht=>?_⟩⟩
     exact k (.ask g) t _ ⟨g0,g1⟩ (none_back (e1.trans e2) ht) (by rw [upd_same,hg];rfl) ((e1.trans e2).trans (same_new ht))
   have hn1:wd≠"ask":=λz=>hn1 (decide_eq_true (by rw [z]))
   refine ⟨_,rfl,rfl,_,rfl,?_⟩
   refine ite2 (λhg=>?_) (λhn2=>?_)
   · have hg:wd≠"answer":=λz=>by rw [z] at hg;exact absurd hg (by decide +kernel)
     refine ⟨_,rfl,by show 1 <= sizeLine;decide,λt ht=>?_⟩
     rcases wdc with z | z | z | z
     · exact absurd z hn1
     · exact k .collect t _ trivial (none_back e1 ht) (by rw [upd_same,z];rfl) (e1.trans (same_new ht))
     · exact k .take t _ trivial (none_back e1 ht) (by rw [upd_same,z];rfl) (e1.trans (same_new ht))
     · exact absurd z hg
   have hn2:wd="answer":=by
     have:=Bool.eq_false_iff.mpr hn2
     rw [Bool.not_eq_false',decide_eq_true_eq] at this
     injection this
   subst hn2
   refine ⟨_,rfl,_,_,rfl,rfl,⟨by decide,by decide⟩,_,_,rfl,rfl,(show (0:Int) < 10 from by decide),?_⟩
   refine ⟨λσ' H'=>∃ nm:Int,σ'=[some (.int c),some (.ref p),some (.str "answer"),some (.int (c / 16 % 2)),some (.int nm)]/\Same H1 H',?_,?_⟩
   · refine ⟨_,rfl,len0v,λq3 hq3=>?_⟩
     have e3:=same_new (o:=.lst []) hq3
     refine ⟨p,q3,_,rfl,rfl,SqL.of (e3 _ _ (e1 _ _ hp)),SqL.of upd_same,_,rfl,?_⟩
     refine ite2 (λhg=>?_) (λ_=>⟨_,rfl,e3⟩)
     have tl:0 < (ts.length:Int):=by
       cases ts with
       | nil=>exact absurd hg (by decide)
       | cons y ys=>rw [List.length_cons];omega
     refine ⟨_,rfl,_,rfl,_,_,rfl,rfl,⟨by decide,by decide⟩,_,rfl,p,_,rfl,.inl (SqL.of (e3 _ _ (e1 _ _ hp))),_,_,rfl,rfl,by rw [List.length_map];exact tl,?_⟩
     have i0:=Int.emod_nonneg (c / 32) (show (ts.length:Int)≠0 by omega)
     have i1:=Int.emod_lt_of_pos (c / 32) tl
     obtain ⟨v,hv,hm⟩:=at_in (xs:=ts.map V.int) i0 (by rw [List.length_map];exact i1)
     obtain ⟨nm,_,rfl⟩:=List.mem_map.mp hm
     exact ⟨p,_,_,_,rfl,rfl,SqL.of (e3 _ _ (e1 _ _ hp)),by show atI _ (c / 32 % ((ts.map V.int).length:Int))=_;rw [List.length_map];exact hv,nm,rfl,e3⟩
   · rintro σ' H2 ⟨nm,rfl,e2⟩
     refine ⟨_,rfl,_,rfl,_,rfl,_,_,rfl,rfl,⟨by decide,by decide⟩,c / 16,rfl,c16.1,c16.2,λg H3 g0 g1 e3=>⟨l3,λt ht=>?_⟩⟩
     have e4:=(e1.trans e2).trans e3
     exact k (.answer nm g) t _ ⟨g0,g1⟩ (none_back e4 ht) upd_same (e4.trans (same_new ht))
end
def sp_ltried (w:World) (ad:Ad):Sp:=λvs H Q _=>∃ (a:YA) (q:YP) (S:YS) (L:Nat) (x:Dd) (t:Addr),vs=[.ref a.y,.ref t]/\Rdy w ad H a q S L/\H t=some (.tup x.vs)/\x.Ok /\
 ∀ (v:V) (r:Addr) (H':Hp),Yn w ad.Yard ad.Hand ad.Heart ad.Ring ad.Store H' a q (x.out q S).2.2->YI q (x.out q S).2.2 (L+2)->DV H' (x.out q S).2.1 v->H r=none->H' r=some (.tup [.str (x.out q S).1,v])->KO a.own H H'->Q (.ref r) H'
section
variable {P:Program} {w:World} {K:PySem.W.Frag} {mg:Str->Option Value} {base:Heap} {a:Ad} {d:Fd}
theorem ok_ltried (G:Gs K mg a d):FnOk P w K mg base CX0 11 a.law_tried d.law_tried ["yard","deed"] (sp_ltried w a):=by
 have cx_Yard_deed:FnOk P w K mg base (CXv P w) 10 _ _ _ _:=ok_deed G
 refine G.f_law_tried.ok sc_law_tried (λvs H Q E h=>?_) (λcdv A' outer s' H vs Q E hr h=>?_)
 · obtain ⟨y,q,S,L,x,t,rfl,_⟩:=h
   rfl
 · obtain ⟨y,q,S,L,x,t,rfl,Rd,ht,hx,k⟩:=h
   have hu:=hu_of hr
   refine ⟨_,(@pss_cons _ _ _ _ _ (@ps_set _ _ 2 _ _ _ _ sc_law_tried.nd rfl (Or.inl rfl) pe_non (by rfl) (by first | exact .inl rfl | exact .inr rfl | assumption))
     (@pss_cons _ _ _ _ _ (@ps_set _ _ 3 _ _ _ _ sc_law_tried.nd rfl (Or.inl rfl) pe_str (by rfl) (by first | exact .inl rfl | exact .inr rfl | assumption))
     (@pss_cons _ _ _ _ _ (ps_try ⟨rfl,rfl,rfl⟩ (λpins R=>by exact (@pss_one _ _ _ (@ps_set _ _ 2 _ _ _ _ sc_law_tried.nd rfl (Or.inl rfl) (pe_methX rfl (pv 0) G.cl_Yard G.mt_Yard_deed cx_Yard_deed (hr.mono (by decide)) G.b_Yard_deed .nil (@pa_cons _ _ _ _ _ (pv 1) pa_nil (by rfl))) (by rfl) (by first | exact .inl rfl | exact .inr rfl | assumption)))) (ph_cons ⟨rfl,rfl,rfl⟩ (by rfl) G.m_NoDeed (λe=>by exact (@pss_one _ _ _ (@ps_set _ _ 3 _ _ _ _ sc_law_tried.nd rfl (Or.inl rfl) pe_str (by rfl) (by first | exact .inl rfl | exact .inr rfl | assumption)))) (ph_cons ⟨rfl,rfl,rfl⟩ (by rfl) G.m_Full (λe=>by exact (@pss_one _ _ _ (@ps_set _ _ 3 _ _ _ _ sc_law_tried.nd rfl (Or.inl rfl) pe_str (by rfl) (by first | exact .inl rfl | exact .inr rfl | assumption)))) (ph_cons ⟨rfl,rfl,rfl⟩ (by rfl) G.m_NoName (λe=>by exact (@pss_one _ _ _ (@ps_set _ _ 3 _ _ _ _ sc_law_tried.nd rfl (Or.inl rfl) pe_str (by rfl) (by first | exact .inl rfl | exact .inr rfl | assumption)))) (ph_cons ⟨rfl,rfl,rfl⟩ (by rfl) G.m_NoTask (λe=>by exact (@pss_one _ _ _ (@ps_set _ _ 3 _ _ _ _ sc_law_tried.nd rfl (Or.inl rfl) pe_str (by rfl) (by first | exact .inl rfl | exact .inr rfl | assumption)))) ph_nil)))))
     (@pss_one _ _ _ (@ps_ret _ _ _ _ (@pe_tup _ _ _ _ _ (@pa_cons _ _ _ _ _ (pv 3) (@pa_cons _ _ _ _ _ (pv 2) pa_nil (by rfl)) (by rfl)))))))),?_⟩
   have fl0:=out_fl (q:=q) (S:=S) x
   refine ⟨λσ' cls H'=>σ'=[some (.ref y.y),some (.ref t),some .non,some (.str "none")]/\Same H H'/\∃ r,x.chk q S=some r/\cls=.ref (rfC a r),?_,?_⟩
   · refine ⟨_,rfl,mthE Rd.y.ob (yF_no (by decide +kernel)) ⟨_,rfl,y,q,S,L,x,t,rfl,Rd,ht,hx,?_⟩⟩
     cases hc:x.chk q S with
     | some r=>exact λH1 e1=>⟨rfl,e1,r,rfl,rfl⟩
     | none =>
       rw [Dd.out_none hc] at k fl0
       intro v H1 Y1 i1 dv1 ko1
       refine ⟨_,rfl,_,rfl,l2,λr hr2=>?_⟩
       have e2:=same_new (o:=.tup [V.str "none",v]) hr2
       refine k v r _ (Y1.same e2) i1 (DV.fl (λb vs e=>e2 b _ e) fl0 dv1) ?_ upd_same (ko_y ko1 (KO.of_same e2))
       cases hr0:H r with
       | none=>rfl
       | some o =>
         by_cases ho:y.own r
         · obtain ⟨o',e',_⟩:=Y1.there ho
           rw [e'] at hr2;cases hr2
         · rw [ko1 r o ho hr0] at hr2;cases hr2
   · rintro σ' cls H1 ⟨rfl,e1,r,hc,rfl⟩
     rw [Dd.out_some hc] at k
     have fin:∀ (r':Addr),H1 r'=none->Q (.ref r') (upd H1 r' (.tup [V.str r.key,.non])):=λr' hr'=>by
       have e2:=same_new (o:=.tup [V.str r.key,.non]) hr'
       exact k .non r' _ (Rd.y.same (e1.trans e2)) (Rd.i.mono (by omega)) rfl (none_back e1 hr') upd_same (KO.of_same (e1.trans e2))
     cases r with
     | deed=>exact ⟨true,G.em_dd,⟨_,rfl,_,rfl,l2,fin⟩⟩
     | full=>exact ⟨false,G.em_fd,true,G.em_ff,⟨_,rfl,_,rfl,l2,fin⟩⟩
     | name=>exact ⟨false,G.em_nd,false,G.em_nf,true,G.em_nn,⟨_,rfl,_,rfl,l2,fin⟩⟩
     | task=>exact ⟨false,G.em_td,false,G.em_tf,false,G.em_tn,true,G.em_tt,⟨_,rfl,_,rfl,l2,fin⟩⟩
end
def sp_lafter:Sp:=λvs H Q _=>∃ (p t r:Addr) (ts:List Int) (x:Dd) (key:Str) (d:PyData) (v:V),vs=[.ref p,.ref t,.ref r]/\H p=some (.lst (ts.map V.int))/\H t=some (.tup x.vs)/\H r=some (.tup [.str key,v])/\DV H d v/\(x.ftc->Fch d)/\ts.length < 1000 /\
 ∀ H',H' p=some (.lst ((x.aft ts key d).map V.int))->Kp [p] H H'->Q .non H'
theorem all_flat {ts:List Int}:(ts.map V.int).all flatV=true:=by rw [List.all_eq_true];intro v hv;obtain ⟨i,_,rfl⟩:=List.mem_map.mp hv;rfl
section
variable {P:Program} {w:World} {K:PySem.W.Frag} {mg:Str->Option Value} {base:Heap} {a:Ad} {d:Fd}
theorem ok_lafter (G:Gs K mg a d):FnOk P w K mg base CX0 1 a.law_after d.law_after ["tasks","deed","told"] sp_lafter:=by
 refine G.f_law_after.ok sc_law_after (λvs H Q E h=>?_) (λcdv A' outer s' H vs Q E hr h=>?_)
 · obtain ⟨p,t,r,ts,x,key,dd,v,rfl,_⟩:=h
   rfl
 · obtain ⟨p,t,r,ts,x,key,dd,v,rfl,hp,ht,hr1,dv,fc,tl,k⟩:=h
   have hu:=hu_of hr
   refine ⟨_,(@pss_cons _ _ _ _ _ (ps_if (pt_cmpR op_ne (@pe_ix _ _ _ _ _ _ _ ix_tup (pv 2) pe_int (λ_ _=>rfl)) pe_str (nomark _)) (@pss_one _ _ _ ps_retN) pss_nil)
     (@pss_cut _ _ _ _ _ (ps_if ((pw_and (pt_cmpR op_eq (@pe_ix _ _ _ _ _ _ _ ix_tup (pv 1) pe_int (λ_ _=>rfl)) pe_str (nomark _)) (pw_and (pt_cmpR op_notN (@pe_ix _ _ _ _ _ _ _ ix_tup (pv 2) pe_int (λ_ _=>rfl)) pe_non (nomark _)) (pw_and (pt_cmpR op_notN (@pe_ix _ _ _ _ _ _ _ ix_tup (@pe_ix _ _ _ _ _ _ _ ix_tup (pv 2) pe_int (λ_ _=>rfl)) pe_int (λ_ _=>rfl)) pe_non (nomark _)) (pw_and1 (pt_cmpR op_notIn_seq (@pe_ix _ _ _ _ _ _ _ ix_tup (@pe_ix _ _ _ _ _ _ _ ix_tup (pv 2) pe_int (λ_ _=>rfl)) pe_int (λ_ _=>rfl)) (pv 0) (by with_unfolding_all rfl))))))).pt (@pss_one _ _ _ (@ps_expr _ _ _ _ (@pe_bm _ _ _ _ _ _ _ _ _ _ _ _ PySem.F.plainAttrs_list PySem.F.slot_list_append PySem.F.type_list_append mt_append (pv 0) (@pa_cons _ _ _ _ _ (@pe_ix _ _ _ _ _ _ _ ix_tup (@pe_ix _ _ _ _ _ _ _ ix_tup (pv 2) pe_int (λ_ _=>rfl)) pe_int (λ_ _=>rfl)) pa_nil (by rfl)) (by rfl) (by rfl) (by rfl) (by rfl) (by rfl)) (by rfl))) pss_nil)
     (@pss_one _ _ _ (ps_if ((pw_and (pt_cmpR op_eq (@pe_ix _ _ _ _ _ _ _ ix_tup (pv 1) pe_int (λ_ _=>rfl)) pe_str (nomark _)) (pw_and1 (pt_cmpR op_in_seq (@pe_ix _ _ _ _ _ _ _ ix_tup (pv 1) pe_int (λ_ _=>rfl)) (pv 0) (by with_unfolding_all rfl))))).pt (@pss_one _ _ _ (@ps_expr _ _ _ _ (@pe_bm _ _ _ _ _ _ _ _ _ _ _ _ PySem.F.plainAttrs_list PySem.F.slot_list_remove PySem.F.type_list_remove mt_remove (pv 0) (@pa_cons _ _ _ _ _ (@pe_ix _ _ _ _ _ _ _ ix_tup (pv 1) pe_int (λ_ _=>rfl)) pa_nil (by rfl)) (by rfl) (by rfl) (by rfl) (by rfl) (by rfl)) (by rfl))) pss_nil)))),?_⟩
   refine ⟨_,rfl,r,_,_,_,rfl,rfl,SqT.of hr1,atI_zero,rfl,_,rfl,?_⟩
   by_cases hk:key="none"
   rotate_left
   · refine iteC (by rw [Bool.not_eq_true',decide_eq_false_iff_not];exact sne hk) ?_
     exact k H (by rw [hp];unfold Dd.aft;rw [if_neg hk]) (Kp.refl _ _)
   subst hk
   refine iteN (by rw [decide_eq_true rfl];exact λz=>by cases z) ?_
   have npr:p≠r:=λz=>by rw [z,hr1] at hp;cases hp
   have npt:p≠t:=λz=>by rw [z,ht] at hp;cases hp
   refine ⟨λσ' H'=>σ'=[some (.ref p),some (.ref t),some (.ref r)]/\Kp [p] H H'/\∃ l1:List Int,H' p=some (.lst (l1.map V.int))/\((∃ nm wt,x=.answer nm wt)->l1=ts)/\((∀ nm wt,x≠.answer nm wt)->l1=x.aft ts "none" dd),?_,?_⟩
   · have stay:(∀ nm wt,x≠.answer nm wt)->x.aft ts "none" dd=ts->([some (V.ref p),some (.ref t),some (.ref r)]=[some (V.ref p),some (.ref t),some (.ref r)]/\Kp [p] H H/\∃ l1:List Int,H p=some (.lst (l1.map V.int))/\((∃ nm wt,x=.answer nm wt)->l1=ts)/\((∀ nm wt,x≠.answer nm wt)->l1=x.aft ts "none" dd)):=λ_ h2=>⟨rfl,Kp.refl _ _,ts,hp,λ_=>rfl,λ_=>h2.symm⟩
     refine ⟨_,rfl,t,_,_,_,rfl,rfl,SqT.of ht,x.at0,rfl,_,rfl,?_⟩
     rcases x.cls2 with rfl | ⟨nm,wt,rfl⟩ | ⟨w1,w2,w3⟩
     · refine iteC (decide_eq_true rfl) ?_
       have na:∀ nm wt,Dd.take≠.answer nm wt:=λ_ _ z=>by cases z
       rcases (fc trivial).dv dv with ⟨rfl,rfl⟩ | ⟨c,v1,v2,rfl,hc,⟨rfl,rfl,rfl⟩ | ⟨i,j,rfl,rfl,rfl⟩⟩
       · refine ⟨_,rfl,r,_,_,_,rfl,rfl,SqT.of hr1,rfl,rfl,_,rfl,iteF (iteF ?_)⟩
         exact stay na rfl
       · refine ⟨_,rfl,r,_,_,_,rfl,rfl,SqT.of hr1,rfl,rfl,_,rfl,iteT ?_⟩
         refine ⟨_,rfl,r,_,_,_,rfl,rfl,SqT.of hr1,rfl,c,_,_,_,rfl,rfl,SqT.of hc,rfl,rfl,_,rfl,iteF (iteF ?_)⟩
         exact stay na rfl
       · refine ⟨_,rfl,r,_,_,_,rfl,rfl,SqT.of hr1,rfl,rfl,_,rfl,iteT ?_⟩
         refine ⟨_,rfl,r,_,_,_,rfl,rfl,SqT.of hr1,rfl,c,_,_,_,rfl,rfl,SqT.of hc,rfl,rfl,_,rfl,iteT ?_⟩
         refine ⟨_,rfl,r,_,_,_,rfl,rfl,SqT.of hr1,rfl,c,_,_,_,rfl,rfl,SqT.of hc,rfl,_,rfl,p,_,rfl,.inl (SqL.of hp),rfl,all_flat,_,rfl,?_⟩
         simp only [if_true]
         rw [inV_int]
         have ea:Dd.take.aft ts "none" (.tuple [.int i,.int j])=gNext ts i:=rfl
         cases hin:ts.contains i with
         | true =>
           refine iteF (stay na ?_)
           rw [ea];unfold gNext;rw [hin];rfl
         | false =>
           refine iteT ?_
           refine ⟨_,rfl,.inl ⟨rfl,_,SqL.of hp⟩,_,rfl,r,_,_,_,rfl,rfl,SqT.of hr1,rfl,c,_,_,_,rfl,rfl,SqT.of hc,rfl,p,_,_,rfl,rfl,hp,Nat.lt_of_lt_of_le (show _ < 1000 by rw [List.length_map];exact tl) (by decide),?_⟩
           refine ⟨rfl,Kp.one,ts++[i],by rw [upd_same,snocI],λ⟨_,_,z⟩=>absurd z (na _ _),λ_=>?_⟩
           rw [ea];unfold gNext;rw [hin];rfl
     · refine iteN (by rw [decide_eq_true_eq];exact sne (show ¬ (("answer":Str)="take") by decide +kernel)) (iteF ?_)
       exact ⟨rfl,Kp.refl _ _,ts,hp,λ_=>rfl,λz=>absurd rfl (z nm wt)⟩
     · refine iteN (by rw [decide_eq_true_eq];exact sne w1) (iteF ?_)
       exact ⟨rfl,Kp.refl _ _,ts,hp,λ_=>rfl,λ_=>(w3 _ _ _).symm⟩
   · rintro σ' H1 ⟨rfl,kp1,l1,h1,f1,f2⟩
     have ht1:=kp1 _ _ (λz=>npt (List.mem_singleton.mp z).symm) ht
     refine ⟨_,rfl,t,_,_,_,rfl,rfl,SqT.of ht1,x.at0,rfl,_,rfl,?_⟩
     rcases x.cls2 with rfl | ⟨nm,wt,rfl⟩ | ⟨w1,w2,w3⟩
     · refine iteN (by rw [decide_eq_true_eq];exact sne (show ¬ (("take":Str)="answer") by decide +kernel)) (iteF ?_)
       rw [f2 λ_ _ z=>by cases z] at h1
       exact k H1 h1 kp1
     · refine iteC (decide_eq_true rfl) ?_
       have e1:=f1 ⟨_,_,rfl⟩
       subst e1
       refine ⟨_,rfl,t,_,_,_,rfl,rfl,SqT.of ht1,rfl,_,rfl,p,_,rfl,.inl (SqL.of h1),rfl,all_flat,_,rfl,?_⟩
       simp only [Bool.false_eq_true,if_false]
       rw [inV_int]
       have ea:(Dd.answer nm wt).aft l1 "none" dd=l1.erase nm:=rfl
       rw [ea] at k
       cases hin:l1.contains nm with
       | true =>
         refine iteT ?_
         refine ⟨_,rfl,.inl ⟨rfl,_,SqL.of h1⟩,_,rfl,t,_,_,_,rfl,rfl,SqT.of ht1,rfl,p,l1,nm,rfl,rfl,h1,by rw [List.contains_eq_mem] at hin;exact of_decide_eq_true hin,?_⟩
         exact k _ upd_same (kp1.trans Kp.one)
       | false =>
         refine iteF ?_
         refine k H1 ?_ kp1
         rw [List.erase_of_not_mem (by rw [List.contains_eq_mem] at hin;exact of_decide_eq_false hin)];exact h1
     · refine iteN (by rw [decide_eq_true_eq];exact sne w2) (iteF ?_)
       rw [f2 λnm wt z=>by rw [z] at w2;exact w2 rfl] at h1
       exact k H1 h1 kp1
end

def bad (a b:YA) (tk kp c:Addr):Prop:=a.own c\/b.own c\/c=tk\/c=kp
structure W7 (w:World) (ad:Ad) (H:Hp) (a b:YA) (q:YP) (S T:YS) (L:Nat) (tk kp:Addr) (kv:List V) (ts:List Int):Prop where
 y:Yn w ad.Yard ad.Hand ad.Heart ad.Ring ad.Store H a q S
 iy:YI q S L
 fy:FlL S.hs
 z:Yn w ad.Yard ad.Hand ad.Heart ad.Ring ad.Store H b q T
 iz:YI q T L
 dj:∀ c,a.own c->¬ b.own c
 ht:H tk=some (.lst (ts.map V.int))
 tl:ts.length <= L
 hk:H kp=some (.lst kv)
 kl:kv.length <= L
 kk:∀ v∈kv,KPr (bad a b tk kp) H v
 n1:¬ a.own tk/\¬ b.own tk
 n2:¬ a.own kp/\¬ b.own kp
 n3:tk≠kp
section
variable {w:World} {ad:Ad} {H H':Hp} {a b:YA} {q:YP} {S T S' T':YS} {L L':Nat} {tk kp:Addr} {kv:List V} {ts ts':List Int}
theorem W7.noT (W:W7 w ad H a b q S T L tk kp kv ts):∀ c,bad a b tk kp c->∀ vs,H c≠some (.tup vs):=λc hc vs e=>by
 rcases hc with h | h | h | h
 · exact W.y.noT c h vs e
 · exact W.z.noT c h vs e
 · rw [h,W.ht] at e;cases e
 · rw [h,W.hk] at e;cases e
theorem W7.go (W:W7 w ad H a b q S T L tk kp kv ts) (ko:KO (bad a b tk kp) H H') (Y':Yn w ad.Yard ad.Hand ad.Heart ad.Ring ad.Store H' a q S') (iy':YI q S' L') (fy':FlL S'.hs) (Z':Yn w ad.Yard ad.Hand ad.Heart ad.Ring ad.Store H' b q T') (iz':YI q T' L') (ht':H' tk=some (.lst (ts'.map V.int))) (tl':ts'.length <= L') (hk':H' kp=some (.lst kv)) (hL:L <= L'):W7 w ad H' a b q S' T' L' tk kp kv ts' :=
 ⟨Y',iy',fy',Z',iz',W.dj,ht',tl',hk',Nat.le_trans W.kl hL,λv hv=>(W.kk v hv).ko ko (ko_tups ko W.noT),W.n1,W.n2,W.n3⟩
theorem W7.same (W:W7 w ad H a b q S T L tk kp kv ts) (e:Same H H'):W7 w ad H' a b q S T L tk kp kv ts:=W.go (KO.of_same e) (W.y.same e) W.iy W.fy (W.z.same e) W.iz (e _ _ W.ht) W.tl (e _ _ W.hk) (Nat.le_refl _)
theorem W7.mono (W:W7 w ad H a b q S T L tk kp kv ts) (h:L <= L'):W7 w ad H a b q S T L' tk kp kv ts:=W.go (KO.refl _ _) W.y (W.iy.mono h) W.fy W.z (W.iz.mono h) W.ht (Nat.le_trans W.tl h) W.hk h
theorem W7.stepA (W:W7 w ad H a b q S T L tk kp kv ts) (ko:KO a.own H H') (Y':Yn w ad.Yard ad.Hand ad.Heart ad.Ring ad.Store H' a q S') (iy':YI q S' (L+2)) (fy':FlL S'.hs):W7 w ad H' a b q S' T (L+2) tk kp kv ts :=
 W.go (ko.mono λ_=>.inl) Y' iy' fy' (W.z.ko ko W.dj W.y.noT) (W.iz.mono (by omega)) (ko _ _ W.n1.1 W.ht) (by have:=W.tl;omega) (ko _ _ W.n2.1 W.hk) (by omega)
theorem W7.stepB (W:W7 w ad H a b q S T (L+2) tk kp kv ts) (ko:KO b.own H H') (Z':Yn w ad.Yard ad.Hand ad.Heart ad.Ring ad.Store H' b q T') (iz':YI q T' (L+2)):W7 w ad H' a b q S T' (L+2) tk kp kv ts :=
 W.go (ko.mono λ_ z=>.inr (.inl z)) (W.y.ko ko (λc h1 h2=>W.dj c h2 h1) W.z.noT) W.iy W.fy Z' iz' (ko _ _ W.n1.2 W.ht) W.tl (ko _ _ W.n2.2 W.hk) (Nat.le_refl _)
theorem W7.stepT (W:W7 w ad H a b q S T L tk kp kv ts) (k:Kp [tk] H H') (h:H' tk=some (.lst (ts'.map V.int))) (tl':ts'.length <= L):W7 w ad H' a b q S T L tk kp kv ts':=by
 have nt:∀ c,c∈[tk]->∀ vs,H c≠some (.tup vs):=λc hc vs e=>by rw [List.mem_singleton.mp hc,W.ht] at e;cases e
 have ko:KO (·∈[tk]) H H':=λc o n e=>k c o n e
 exact W.go (ko.mono λc z=>.inr (.inr (.inl (List.mem_singleton.mp z)))) (W.y.ko ko (λc h1=>by rw [List.mem_singleton.mp h1];exact W.n1.1) nt) W.iy W.fy (W.z.ko ko (λc h1=>by rw [List.mem_singleton.mp h1];exact W.n1.2) nt) W.iz h tl' (k _ _ (λz=>W.n3 (List.mem_singleton.mp z).symm) W.hk) (Nat.le_refl _)
theorem W7.koT (_W:W7 w ad H a b q S T L tk kp kv ts) (k:Kp [tk] H H'):KO (bad a b tk kp) H H':=λc o n e=>k c o (λz=>n (.inr (.inr (.inl (List.mem_singleton.mp z))))) e
theorem W7.stepK (W:W7 w ad H a b q S T L tk kp kv ts) {v:V} (hv:KPr (bad a b tk kp) H v) (hl:kv.length+1 <= L):W7 w ad (upd H kp (.lst (kv++[v]))) a b q S T L tk kp (kv++[v]) ts:=by
 have ko1:KO (·=kp) H (upd H kp (.lst (kv++[v]))):=λc o n e=>by rw [upd_ne n];exact e
 have nt:∀ c,c=kp->∀ vs,H c≠some (.tup vs):=λc hc vs e=>by rw [hc,W.hk] at e;cases e
 have ko:KO (bad a b tk kp) H (upd H kp (.lst (kv++[v]))):=ko1.mono λc z=>.inr (.inr (.inr z))
 refine ⟨W.y.ko ko1 (λc z=>by rw [z];exact W.n2.1) nt,W.iy,W.fy,W.z.ko ko1 (λc z=>by rw [z];exact W.n2.2) nt,W.iz,W.dj,ko1 _ _ W.n3 W.ht,W.tl,upd_same,by rw [List.length_append];exact hl,λu hu=>?_,W.n1,W.n2,W.n3⟩
 rcases List.mem_append.mp hu with z | z
 · exact (W.kk u z).ko ko (ko_tups ko W.noT)
 · rw [List.mem_singleton.mp z];exact hv.ko ko (ko_tups ko W.noT)
theorem W7.fresh (W:W7 w ad H a b q S T L tk kp kv ts) {c:Addr} (h:H c=none):¬ bad a b tk kp c:=λz=>by
 rcases z with z | z | z | z
 · exact W.y.fresh h z
 · exact W.z.fresh h z
 · rw [z,W.ht] at h;cases h
 · rw [z,W.hk] at h;cases h
end

def sp_lhap:Sp:=λvs H Q _=>∃ (t r:Addr) (x:Dd) (key:Str) (d:PyData) (v:V),vs=[.ref t,.ref r]/\H t=some (.tup x.vs)/\H r=some (.tup [.str key,v])/\DV H d v/\flD d=true/\(x.ftc->Fch d) /\
 ∀ (l:Addr) (ts:List V) (H':Hp),Same H H'->H l=none->H' l=some (.lst ts)->DVs H' (x.hap key d) ts->Q (.ref l) H'
section
variable {P:Program} {w:World} {K:PySem.W.Frag} {mg:Str->Option Value} {base:Heap} {a:Ad} {d:Fd}
theorem ok_lhap (G:Gs K mg a d):FnOk P w K mg base CX0 1 a.law_happened d.law_happened ["deed","told"] sp_lhap:=by
 refine G.f_law_happened.ok sc_law_happened (λvs H Q E h=>?_) (λcdv A' outer s' H vs Q E hr h=>?_)
 · obtain ⟨t,r,x,key,dd,v,rfl,_⟩:=h
   rfl
 · obtain ⟨t,r,x,key,dd,v,rfl,ht,hr1,dv,fl,fc,k⟩:=h
   have hu:=hu_of hr
   refine ⟨_,(@pss_cons _ _ _ _ _ (ps_if (pt_cmpR op_ne (@pe_ix _ _ _ _ _ _ _ ix_tup (pv 1) pe_int (λ_ _=>rfl)) pe_str (nomark _)) (@pss_one _ _ _ (@ps_ret _ _ _ _ (@pe_lst _ _ _ _ pa_nil))) pss_nil)
     (@pss_cons _ _ _ _ _ (ps_if (pt_cmpR op_eq (@pe_ix _ _ _ _ _ _ _ ix_tup (pv 0) pe_int (λ_ _=>rfl)) pe_str (nomark _)) (@pss_one _ _ _ (@ps_ret _ _ _ _ (@pe_lst _ _ _ _ (@pa_cons _ _ _ _ _ (@pe_tup _ _ _ _ _ (@pa_cons _ _ _ _ _ pe_str (@pa_cons _ _ _ _ _ (@pe_ix _ _ _ _ _ _ _ ix_tup (pv 1) pe_int (λ_ _=>rfl)) (@pa_cons _ _ _ _ _ (@pe_ix _ _ _ _ _ _ _ ix_tup (pv 0) pe_int (λ_ _=>rfl)) pa_nil (by rfl)) (by rfl)) (by rfl))) pa_nil (by rfl))))) pss_nil)
     (@pss_cons _ _ _ _ _ (ps_if (pt_cmpR op_eq (@pe_ix _ _ _ _ _ _ _ ix_tup (pv 0) pe_int (λ_ _=>rfl)) pe_str (nomark _)) (@pss_one _ _ _ (@ps_ret _ _ _ _ (@pe_lst _ _ _ _ (@pa_cons _ _ _ _ _ (@pe_tup _ _ _ _ _ (@pa_cons _ _ _ _ _ pe_str (@pa_cons _ _ _ _ _ (@pe_ix _ _ _ _ _ _ _ ix_tup (pv 0) pe_int (λ_ _=>rfl)) (@pa_cons _ _ _ _ _ (@pe_ix _ _ _ _ _ _ _ ix_tup (pv 0) pe_int (λ_ _=>rfl)) pa_nil (by rfl)) (by rfl)) (by rfl))) pa_nil (by rfl))))) pss_nil)
     (@pss_cons _ _ _ _ _ (ps_if ((pw_and (pt_cmpR op_in_seq (@pe_ix _ _ _ _ _ _ _ ix_tup (pv 0) pe_int (λ_ _=>rfl)) (@pe_tup _ _ _ _ _ (@pa_cons _ _ _ _ _ pe_str (@pa_cons _ _ _ _ _ pe_str pa_nil (by rfl)) (by rfl))) (by with_unfolding_all rfl)) (pw_and1 (pt_cmpR op_notN (@pe_ix _ _ _ _ _ _ _ ix_tup (pv 1) pe_int (λ_ _=>rfl)) pe_non (nomark _))))).pt (@pss_one _ _ _ (@ps_ret _ _ _ _ (@pe_lst _ _ _ _ (@pa_cons _ _ _ _ _ (@pe_tup _ _ _ _ _ (@pa_cons _ _ _ _ _ (@pe_ix _ _ _ _ _ _ _ ix_list (@pe_lst _ _ _ _ (@pa_cons _ _ _ _ _ pe_str (@pa_cons _ _ _ _ _ pe_str pa_nil (by rfl)) (by rfl))) (pe_callTy call_int1 (by rfl) G.n_int bt_int (@pa_cons _ _ _ _ _ (pe_cmpR op_eq (@pe_ix _ _ _ _ _ _ _ ix_tup (pv 0) pe_int (λ_ _=>rfl)) pe_str (nomark _)) pa_nil (by rfl))) (λ_ _=>rfl)) (@pa_cons _ _ _ _ _ (@pe_ix _ _ _ _ _ _ _ ix_tup (@pe_ix _ _ _ _ _ _ _ ix_tup (pv 1) pe_int (λ_ _=>rfl)) pe_int (λ_ _=>rfl)) (@pa_cons _ _ _ _ _ (@pe_ix _ _ _ _ _ _ _ ix_tup (@pe_ix _ _ _ _ _ _ _ ix_tup (pv 1) pe_int (λ_ _=>rfl)) pe_int (λ_ _=>rfl)) pa_nil (by rfl)) (by rfl)) (by rfl))) pa_nil (by rfl))))) pss_nil)
     (@pss_one _ _ _ (@ps_ret _ _ _ _ (@pe_lst _ _ _ _ pa_nil))))))),?_⟩
   have nil:x.hap key dd=[]->∀ H2,Same H H2->∀ l,H2 l=none->Q (.ref l) (upd H2 l (.lst [])):=λe H2 e2 l hl=>k l [] _ (e2.trans (same_new hl)) (none_back e2 hl) upd_same (by rw [e];rfl)
   have one:∀ (H2:Hp) (wd:Str) (v1 v2:V) (d1 d2:PyData),Same H H2->DV H2 d1 v1->DV H2 d2 v2->flD d1=true->flD d2=true->x.hap key dd=[tup3 wd d1 d2]->∀ t2,H2 t2=none->∀ l,upd H2 t2 (.tup [.str wd,v1,v2]) l=none->Q (.ref l) (upd (upd H2 t2 (.tup [.str wd,v1,v2])) l (.lst [.ref t2])):=λH2 wd v1 v2 d1 d2 e2 dv1 dv2 f1 f2 e t2 ht2 l hl=>by
     have e3:=same_new (o:=.tup [.str wd,v1,v2]) ht2
     have v3:upd H2 t2 (.tup [.str wd,v1,v2]) t2=some (.tup [.str wd,v1,v2]):=upd_same
     generalize upd H2 t2 (.tup [.str wd,v1,v2])=H3 at e3 v3 hl ⊢
     have e4:=same_new (o:=.lst [V.ref t2]) hl
     have e5:=e3.trans e4
     refine k l [.ref t2] _ (e2.trans e5) (none_back (e2.trans e3) hl) upd_same ?_
     rw [e]
     exact ⟨.ref t2,[],rfl,⟨t2,_,rfl,e4 _ _ v3,_,_,rfl,rfl,_,_,rfl,DV.fl (λb vs e=>e5 b _ e) f1 dv1,_,_,rfl,DV.fl (λb vs e=>e5 b _ e) f2 dv2,rfl⟩,rfl⟩
   refine ⟨_,rfl,r,_,_,_,rfl,rfl,SqT.of hr1,atI_zero,rfl,_,rfl,?_⟩
   by_cases hk:key="none"
   rotate_left
   · refine iteC (by rw [Bool.not_eq_true',decide_eq_false_iff_not];exact sne hk) ?_
     exact ⟨len0v,nil (by unfold Dd.hap;rw [if_neg hk]) H λ_ _ e=>e⟩
   subst hk
   refine iteN (by rw [decide_eq_true rfl];exact λz=>by cases z) ?_
   refine ⟨_,rfl,t,_,_,_,rfl,rfl,SqT.of ht,x.at0,rfl,_,rfl,?_⟩
   rcases x.cls5 with ⟨wt,rfl⟩ | ⟨nm,wt,rfl⟩ | hx
   · refine iteC (decide_eq_true rfl) ?_
     refine ⟨_,rfl,r,_,_,_,rfl,rfl,SqT.of hr1,rfl,_,rfl,t,_,_,_,rfl,rfl,SqT.of ht,rfl,l3,λt2 ht2=>⟨by show 1 <= sizeLine;decide,?_⟩⟩
     exact one H "asked" v (.int wt) dd (.int wt) (λ_ _ e=>e) dv rfl fl rfl rfl t2 ht2
   · refine iteN (by rw [decide_eq_true_eq];exact sne (show ¬ (("answer":Str)="ask") by decide +kernel)) ?_
     refine ⟨_,rfl,t,_,_,_,rfl,rfl,SqT.of ht,atI_zero,rfl,_,rfl,?_⟩
     refine iteC (decide_eq_true rfl) ?_
     refine ⟨_,rfl,t,_,_,_,rfl,rfl,SqT.of ht,rfl,_,rfl,t,_,_,_,rfl,rfl,SqT.of ht,rfl,l3,λt2 ht2=>⟨by show 1 <= sizeLine;decide,?_⟩⟩
     exact one H "answered" (.int nm) (.int wt) (.int nm) (.int wt) (λ_ _ e=>e) rfl rfl rfl rfl rfl t2 ht2
   have hw:x.word≠"ask"/\x.word≠"answer":=by
     rcases hx with rfl | rfl | ⟨h1,h2,_⟩
     · exact ⟨show ¬ (("take":Str)="ask") by decide +kernel,show ¬ (("take":Str)="answer") by decide +kernel⟩
     · exact ⟨show ¬ (("collect":Str)="ask") by decide +kernel,show ¬ (("collect":Str)="answer") by decide +kernel⟩
     · exact ⟨h1,h2⟩
   refine iteN (by rw [decide_eq_true_eq];exact sne hw.1) ?_
   refine ⟨_,rfl,t,_,_,_,rfl,rfl,SqT.of ht,x.at0,rfl,_,rfl,?_⟩
   refine iteN (by rw [decide_eq_true_eq];exact sne hw.2) ?_
   refine ⟨_,rfl,t,_,_,_,rfl,rfl,SqT.of ht,x.at0,l2,λq hq=>?_⟩
   have e1:=same_new (o:=.tup [V.str "take",V.str "collect"]) hq
   have v1:upd H q (.tup [V.str "take",V.str "collect"]) q=some (.tup [V.str "take",V.str "collect"]):=upd_same
   generalize upd H q (.tup [V.str "take",V.str "collect"])=H1 at e1 v1 ⊢
   refine ⟨q,_,rfl,.inr (SqT.of v1),rfl,rfl,_,rfl,?_⟩
   simp only [Bool.false_eq_true,if_false]
   rw [show [V.str "take",V.str "collect"]=(["take","collect"]:List Str).map V.str from rfl,inV_str]
   have hr2:=e1 _ _ hr1
   have ht2:=e1 _ _ ht
   rcases hx with rfl | rfl | ⟨_,_,h3,h4,h5⟩
   · refine iteC (by decide +kernel) ?_
     refine ⟨_,rfl,r,_,_,_,rfl,rfl,SqT.of hr2,rfl,rfl,_,rfl,?_⟩
     rcases (fc trivial).dv dv with ⟨rfl,rfl⟩ | ⟨c,u1,u2,rfl,hc,hd⟩
     · refine iteF ?_
       exact ⟨len0v,nil rfl H1 e1⟩
     · refine iteT ?_
       refine ⟨l2,λq2 hq2=>⟨_,rfl,t,_,_,_,rfl,rfl,SqT.of ((same_new hq2) _ _ ht2),rfl,rfl,.inr ⟨_,rfl,q2,_,_,_,rfl,rfl,SqL.of upd_same,rfl,?_⟩⟩⟩
       have e2:=e1.trans (same_new (o:=.lst [V.str "taken",V.str "handed"]) hq2)
       have r2:=e2 _ _ hr1
       have c2:=e2 _ _ hc
       generalize upd H1 q2 (.lst [V.str "taken",V.str "handed"])=H2 at e2 r2 c2 ⊢
       refine ⟨_,rfl,r,_,_,_,rfl,rfl,SqT.of r2,rfl,c,_,_,_,rfl,rfl,SqT.of c2,rfl,_,rfl,r,_,_,_,rfl,rfl,SqT.of r2,rfl,c,_,_,_,rfl,rfl,SqT.of c2,rfl,l3,λt2 ht2=>⟨by show 1 <= sizeLine;decide,?_⟩⟩
       rcases hd with ⟨rfl,rfl,rfl⟩ | ⟨i,j,rfl,rfl,rfl⟩
       · exact one H2 "taken" .non .non .none .none e2 rfl rfl rfl rfl rfl t2 ht2
       · exact one H2 "taken" (.int i) (.int j) (.int i) (.int j) e2 rfl rfl rfl rfl rfl t2 ht2
   · refine iteC (by decide +kernel) ?_
     refine ⟨_,rfl,r,_,_,_,rfl,rfl,SqT.of hr2,rfl,rfl,_,rfl,?_⟩
     rcases (fc trivial).dv dv with ⟨rfl,rfl⟩ | ⟨c,u1,u2,rfl,hc,hd⟩
     · refine iteF ?_
       exact ⟨len0v,nil rfl H1 e1⟩
     · refine iteT ?_
       refine ⟨l2,λq2 hq2=>⟨_,rfl,t,_,_,_,rfl,rfl,SqT.of ((same_new hq2) _ _ ht2),rfl,rfl,.inr ⟨_,rfl,q2,_,_,_,rfl,rfl,SqL.of upd_same,rfl,?_⟩⟩⟩
       have e2:=e1.trans (same_new (o:=.lst [V.str "taken",V.str "handed"]) hq2)
       have r2:=e2 _ _ hr1
       have c2:=e2 _ _ hc
       generalize upd H1 q2 (.lst [V.str "taken",V.str "handed"])=H2 at e2 r2 c2 ⊢
       refine ⟨_,rfl,r,_,_,_,rfl,rfl,SqT.of r2,rfl,c,_,_,_,rfl,rfl,SqT.of c2,rfl,_,rfl,r,_,_,_,rfl,rfl,SqT.of r2,rfl,c,_,_,_,rfl,rfl,SqT.of c2,rfl,l3,λt2 ht2=>⟨by show 1 <= sizeLine;decide,?_⟩⟩
       rcases hd with ⟨rfl,rfl,rfl⟩ | ⟨i,j,rfl,rfl,rfl⟩
       · exact one H2 "handed" .non .non .none .none e2 rfl rfl rfl rfl rfl t2 ht2
       · exact one H2 "handed" (.int i) (.int j) (.int i) (.int j) e2 rfl rfl rfl rfl rfl t2 ht2
   · refine iteN (λz=>?_) ?_
     · rw [List.contains_eq_mem,decide_eq_true_eq] at z
       simp only [List.mem_cons,List.not_mem_nil,or_false] at z
       exact z.elim h3 h4
     · exact ⟨len0v,nil (h5 _ _) H1 e1⟩
end
def sp_law (K:PySem.W.Frag):Sp:=λvs H Q _=>∃ (b:Addr) (ns:List Int),vs=[.ref b]/\SqL K H b (ns.map V.int)/\ns.length <= 63/\∀ H',Q (.bl true) H'
theorem yp_ok {s R:Int} {n:Nat} {fs:List Str} (m:MkOk s R n fs):(ypOf s R n fs).Ok:=by
 refine ⟨⟨by have:=m.s1;show 0 < s;omega,m.s8,?_⟩,by have:=m.n9;show n <= 9;omega⟩
 show 0 < s * (if fs.contains "round" then 1 else R)
 have:=m.s1;have:=m.R2
 split<;>exact Int.mul_pos (by omega) (by omega)
section
variable {P:Program} {w:World} {K:PySem.W.Frag} {mg:Str->Option Value} {base:Heap} {a:Ad} {d:Fd}
theorem ok_law (G:Gs K mg a d):FnOk P w K mg base CX0 17 a.law d.law ["script"] (sp_law K):=by
 have c_law_cell_at:FnOk P w K mg base CX0 1 _ _ _ _:=ok_cellat G
 have c_law_make:FnOk P w K mg base CX0 1 _ _ _ _:=ok_make G
 have c_law_codes:FnOk P w K mg base CX0 1 _ _ _ _:=ok_codes G
 have c_law_deed:FnOk P w K mg base CX0 2 _ _ _ _:=ok_ldeed G
 have c_law_tried:FnOk P w K mg base CX0 11 _ _ _ _:=ok_ltried G
 have c_law_happened:FnOk P w K mg base CX0 1 _ _ _ _:=ok_lhap G
 have c_law_after:FnOk P w K mg base CX0 1 _ _ _ _:=ok_lafter G
 have c_law_same:FnOk P w K mg base CX0 11 _ _ _ _:=ok_same G 11
 have c_Yard__init:FnOk P w K mg base CX0 6 _ _ _ _:=ok_yinit G
 have c_Yard_story:FnOk P w K mg base CX0 1 _ _ _ _:=ok_story G
 refine G.f_law.ok sc_law (λvs H Q E h=>?_) (λcdv A' outer s' H vs Q E hr h=>?_)
 · obtain ⟨l,ns,rfl,_⟩:=h
   rfl
 · obtain ⟨l,ns,rfl,hS,hlen,k⟩:=h
   have hu:=hu_of hr
   refine ⟨_,(@pss_cons _ _ _ _ _ (@ps_asg _ _ _ _ _ _ (pe_call c_law_make (hr.mono (by decide)) (by rfl) G.m_law_make G.f_law_make.kp G.b_law_make .nil pass0 (@pa_cons _ _ _ _ _ (pe_call c_law_cell_at (hr.mono (by decide)) (by rfl) G.m_law_cell_at G.f_law_cell_at.kp G.b_law_cell_at .nil pass0 (@pa_cons _ _ _ _ _ (pv 0) (@pa_cons _ _ _ _ _ pe_int pa_nil (by rfl)) (by rfl))) pa_nil (by rfl))) (pg_tup rfl (pgs_cons (pg_name (i:=1) sc_law.nd rfl (Or.inl rfl)) (pgs_cons (pg_name (i:=2) sc_law.nd rfl (Or.inl rfl)) (pgs_cons (pg_name (i:=3) sc_law.nd rfl (Or.inl rfl)) (pgs_cons (pg_name (i:=4) sc_law.nd rfl (Or.inl rfl)) pgs_nil))))) (by rfl) (by rfl) (by rfl))
     (@pss_cons _ _ _ _ _ (@ps_set _ _ 5 _ _ _ _ sc_law.nd rfl (Or.inl rfl) (pe_make G.k_Yard c_Yard__init (hr.mono (by decide)) (by rfl) G.m_Yard G.b_Yard__init .nil pass0 (@pa_cons _ _ _ _ _ (pv 1) (@pa_cons _ _ _ _ _ (pv 2) (@pa_cons _ _ _ _ _ (pv 3) (@pa_cons _ _ _ _ _ (pv 4) pa_nil (by rfl)) (by rfl)) (by rfl)) (by rfl))) (by rfl) (by first | exact .inl rfl | exact .inr rfl | assumption))
     (@pss_cons _ _ _ _ _ (@ps_set _ _ 6 _ _ _ _ sc_law.nd rfl (Or.inl rfl) (pe_make G.k_Yard c_Yard__init (hr.mono (by decide)) (by rfl) G.m_Yard G.b_Yard__init .nil pass0 (@pa_cons _ _ _ _ _ (pv 1) (@pa_cons _ _ _ _ _ (pv 2) (@pa_cons _ _ _ _ _ (pv 3) (@pa_cons _ _ _ _ _ (pv 4) pa_nil (by rfl)) (by rfl)) (by rfl)) (by rfl))) (by rfl) (by first | exact .inl rfl | exact .inr rfl | assumption))
     (@pss_cons _ _ _ _ _ (@ps_set _ _ 7 _ _ _ _ sc_law.nd rfl (Or.inl rfl) (@pe_lst _ _ _ _ pa_nil) (by rfl) (by first | exact .inl rfl | exact .inr rfl | assumption))
     (@pss_cons _ _ _ _ _ (@ps_set _ _ 8 _ _ _ _ sc_law.nd rfl (Or.inl rfl) (@pe_lst _ _ _ _ pa_nil) (by rfl) (by first | exact .inl rfl | exact .inr rfl | assumption))
     (@pss_cons _ _ _ _ _ (@ps_set _ _ 9 _ _ _ _ sc_law.nd rfl (Or.inl rfl) (@pe_lst _ _ _ _ pa_nil) (by rfl) (by first | exact .inl rfl | exact .inr rfl | assumption))
     (@pss_cons _ _ _ _ _ (ps_for PassesOwn.never rfl (pi_list (pe_call c_law_codes (hr.mono (by decide)) (by rfl) G.m_law_codes G.f_law_codes.kp G.b_law_codes .nil pass0 (@pa_cons _ _ _ _ _ (pe_slice sl_list (pv 0) (po_some pe_int) po_none) (@pa_cons _ _ _ _ _ pe_int pa_nil (by rfl)) (by rfl)))) (pg_name (i:=10) sc_law.nd rfl (Or.inl rfl)) (@pss_cons _ _ _ _ _ (@ps_set _ _ 11 _ _ _ _ sc_law.nd rfl (Or.inl rfl) (pe_call c_law_deed (hr.mono (by decide)) (by rfl) G.m_law_deed G.f_law_deed.kp G.b_law_deed .nil pass0 (@pa_cons _ _ _ _ _ (pv 10) (@pa_cons _ _ _ _ _ (pv 7) pa_nil (by rfl)) (by rfl))) (by rfl) (by first | exact .inl rfl | exact .inr rfl | assumption))
     (@pss_cons _ _ _ _ _ (@ps_set _ _ 12 _ _ _ _ sc_law.nd rfl (Or.inl rfl) (pe_call c_law_tried (hr.mono (by decide)) (by rfl) G.m_law_tried G.f_law_tried.kp G.b_law_tried .nil pass0 (@pa_cons _ _ _ _ _ (pv 5) (@pa_cons _ _ _ _ _ (pv 11) pa_nil (by rfl)) (by rfl))) (by rfl) (by first | exact .inl rfl | exact .inr rfl | assumption))
     (@pss_cons _ _ _ _ _ (@ps_set _ _ 8 _ _ _ _ sc_law.nd rfl (Or.inl rfl) (@pe_op _ _ _ _ _ _ _ _ op_cat (pv 8) (pe_call c_law_happened (hr.mono (by decide)) (by rfl) G.m_law_happened G.f_law_happened.kp G.b_law_happened .nil pass0 (@pa_cons _ _ _ _ _ (pv 11) (@pa_cons _ _ _ _ _ (pv 12) pa_nil (by rfl)) (by rfl)))) (by rfl) (by first | exact .inl rfl | exact .inr rfl | assumption))
     (@pss_cons _ _ _ _ _ (@ps_expr _ _ _ _ (pe_call c_law_after (hr.mono (by decide)) (by rfl) G.m_law_after G.f_law_after.kp G.b_law_after .nil pass0 (@pa_cons _ _ _ _ _ (pv 7) (@pa_cons _ _ _ _ _ (pv 11) (@pa_cons _ _ _ _ _ (pv 12) pa_nil (by rfl)) (by rfl)) (by rfl))) (by rfl))
     (@pss_cut _ _ _ _ _ (ps_if (pt_cmpR op_eq (@pe_op _ _ _ _ _ _ _ _ op_mod (pv 10) pe_int) pe_int (nomark _)) (@pss_one _ _ _ (@ps_expr _ _ _ _ (pe_call c_law_tried (hr.mono (by decide)) (by rfl) G.m_law_tried G.f_law_tried.kp G.b_law_tried .nil pass0 (@pa_cons _ _ _ _ _ (pv 6) (@pa_cons _ _ _ _ _ (pv 11) pa_nil (by rfl)) (by rfl))) (by rfl))) pss_nil)
     (@pss_one _ _ _ (ps_if (pt_cmpR op_eq (@pe_op _ _ _ _ _ _ _ _ op_mod (@pe_op _ _ _ _ _ _ _ _ op_fdivB (pv 10) pe_int) pe_int) pe_int (nomark _)) (@pss_cons _ _ _ _ _ (@ps_set _ _ 13 _ _ _ _ sc_law.nd rfl (Or.inl rfl) (pe_meth0 (pv 5) G.cl_Yard G.mt_Yard_story c_Yard_story (hr.mono (by decide)) G.b_Yard_story .nil pass0) (by rfl) (by first | exact .inl rfl | exact .inr rfl | assumption))
     (@pss_cons _ _ _ _ _ (ps_if (pt_not (pt_val (pe_call c_law_same (hr.mono (by decide)) (by rfl) G.m_law_same G.f_law_same.kp G.b_law_same .nil pass0 (@pa_cons _ _ _ _ _ (pv 13) (@pa_cons _ _ _ _ _ (pv 8) pa_nil (by rfl)) (by rfl))))) (@pss_one _ _ _ (@ps_ret _ _ _ _ pe_bl)) pss_nil)
     (@pss_cons _ _ _ _ _ (@ps_expr _ _ _ _ (@pe_bm _ _ _ _ _ _ _ _ _ _ _ _ PySem.F.plainAttrs_list PySem.F.slot_list_append PySem.F.type_list_append mt_append (pv 9) (@pa_cons _ _ _ _ _ (@pe_tup _ _ _ _ _ (@pa_cons _ _ _ _ _ (pv 13) (@pa_cons _ _ _ _ _ (pv 8) pa_nil (by rfl)) (by rfl))) pa_nil (by rfl)) (by rfl) (by rfl) (by rfl) (by rfl) (by rfl)) (by rfl))
     (@pss_one _ _ _ (@ps_expr _ _ _ _ (pe_bm0 PySem.F.plainAttrs_list PySem.F.slot_list_clear PySem.F.type_list_clear mt_clear (pe_meth0 (pv 5) G.cl_Yard G.mt_Yard_story c_Yard_story (hr.mono (by decide)) G.b_Yard_story .nil pass0)) (by rfl)))))) pss_nil))))))))
     (@pss_cons _ _ _ _ _ (ps_for PassesOwn.never rfl (pi_list (pv 9)) (pg_tup rfl (pgs_cons (pg_name (i:=13) sc_law.nd rfl (Or.inl rfl)) (pgs_cons (pg_name (i:=14) sc_law.nd rfl (Or.inl rfl)) pgs_nil))) (@pss_one _ _ _ (ps_if (pt_cmpR (op_neD hr.units) (pv 13) (pv 14) (nomark _)) (@pss_one _ _ _ (@ps_ret _ _ _ _ pe_bl)) pss_nil)))
     (@pss_one _ _ _ (@ps_ret _ _ _ _ (pe_call c_law_same (hr.mono (by decide)) (by rfl) G.m_law_same G.f_law_same.kp G.b_law_same .nil pass0 (@pa_cons _ _ _ _ _ (pe_meth0 (pv 5) G.cl_Yard G.mt_Yard_story c_Yard_story (hr.mono (by decide)) G.b_Yard_story .nil pass0) (@pa_cons _ _ _ _ _ (pv 8) pa_nil (by rfl)) (by rfl))))))))))))),?_⟩
   refine ⟨_,rfl,l,ns,0,rfl,hS,_,rfl,λt0 ft s R n0 fs H1 mk e1 _ ht0 hft=>?_⟩
   obtain ⟨n,rfl⟩:=Int.eq_ofNat_of_zero_le (show 0 <= n0 by have:=mk.n1;omega)
   have qok:=yp_ok mk
   refine ⟨t0,_,rfl,SqT.of ht0,rfl,_,_,rfl,_,_,rfl,_,_,rfl,_,_,rfl,rfl,?_⟩
   refine ⟨_,rfl,_,rfl,_,rfl,_,rfl,λy dy ny ndy nedy=>?_⟩
   refine ⟨y,dy,ft,s,R,n,fs,rfl,upd_same,by rw [upd_ne (ne_of_none hft ny),upd_ne (ne_of_none hft ndy)];exact hft,λa1 H2 ha fa Y2 kp2=>⟨rfl,?_⟩⟩
   have e2:=new_hand ny ndy kp2
   have hft2:=e2 _ _ hft
   refine ⟨_,rfl,_,rfl,_,rfl,_,rfl,λz dz nz ndz nedz=>?_⟩
   refine ⟨z,dz,ft,s,R,n,fs,rfl,upd_same,by rw [upd_ne (ne_of_none hft2 nz),upd_ne (ne_of_none hft2 ndz)];exact hft2,λb1 H3 hb fb Z3 kp3=>⟨rfl,?_⟩⟩
   have e3:=new_hand nz ndz kp3
   have dj:∀ c,a1.own c->¬ b1.own c:=λc h1 h2=>by
     obtain ⟨o,eo,_⟩:=Y2.there h1
     by_cases zz:c=z
     · rw [zz,nz] at eo;cases eo
     · have:=(up1 (up1 (fb c h2 zz)).2).2
       rw [eo] at this;cases this
   have Y3:=Y2.same e3
   have S3:=(e1.trans (e2.trans e3)).seq hS
   subst ha hb
   clear Y2 e1 e2 e3 hft hft2 kp2 kp3 fa fb ht0 ny ndy nz ndz
   refine ⟨len0v,λtk htk=>⟨len0v,λst hst=>⟨len0v,λkp hkp=>?_⟩⟩⟩
   have f1:=same_new (o:=.lst []) htk
   have f2:=same_new (o:=.lst []) hst
   have f3:=same_new (o:=.lst []) hkp
   have ntk:=(⟨Y3.fresh htk,Z3.fresh htk⟩:¬ a1.own tk/\¬ b1.own tk)
   have nst:=(⟨(Y3.same f1).fresh hst,(Z3.same f1).fresh hst⟩:¬ a1.own st/\¬ b1.own st)
   have nkp:=(⟨(Y3.same (f1.trans f2)).fresh hkp,(Z3.same (f1.trans f2)).fresh hkp⟩:¬ a1.own kp/\¬ b1.own kp)
   have q1:tk≠kp:=ne_of_none (f2 _ _ upd_same) hkp
   have q2:st≠kp:=ne_of_none upd_same hkp
   have q3:st≠tk:=λzz=>by rw [zz,upd_same] at hst;cases hst
   have h1:=f3 _ _ (f2 _ _ (upd_same (H:=H3) (a:=tk) (o:=.lst [])))
   have h2:=f3 _ _ (upd_same (H:=upd H3 tk (.lst [])) (a:=st) (o:=.lst []))
   have h3:=upd_same (H:=upd (upd H3 tk (.lst [])) st (.lst [])) (a:=kp) (o:=.lst [])
   have f4:Same H3 _:=f1.trans (f2.trans f3)
   have W:W7 w a _ a1 b1 (ypOf s R n fs) YS.zero YS.zero 0 tk kp [] []:=⟨Y3.same f4,YI.zero _,FlL.nil,Z3.same f4,YI.zero _,dj,h1,Nat.le_refl _,h3,Nat.le_refl _,(λ_ zz=>absurd zz List.not_mem_nil),ntk,nkp,q1⟩
   have Ls:LsF (bad a1 b1 tk kp) (upd (upd (upd H3 tk (.lst [])) st (.lst [])) kp (.lst [])) st YS.zero.hs:=⟨[],h2,rfl,(λ_ zz=>absurd zz List.not_mem_nil),λzz=>by
     rcases zz with zz | zz | zz | zz
     · exact nst.1 zz
     · exact nst.2 zz
     · exact q3 zz
     · exact q2 zz⟩
   have S4:=f4.seq S3
   generalize upd (upd (upd H3 tk (.lst [])) st (.lst [])) kp (.lst [])=H4 at W Ls S4 ⊢
   clear f1 f2 f3 f4 h1 h2 h3 htk hst hkp S3 Y3 Z3 dj ntk nst nkp q1 q2 q3
   obtain ⟨q,hq⟩:∃ q,q=ypOf s R n fs:=⟨_,rfl⟩
   rw [← hq] at W qok
   refine ⟨_,rfl,_,rfl,l,_,rfl,S4,λp1 hp1=>?_⟩
   have e5:=same_new (o:=.lst (cutV (ns.map V.int) (some 1) none)) hp1
   have v5:upd H4 p1 (.lst (cutV (ns.map V.int) (some 1) none)) p1=some (.lst ((ns.drop 1).map V.int)):=by rw [upd_same,show (some (1:Int))=some ((1:Nat):Int) from rfl,cutV_fromY,List.map_drop]
   generalize upd H4 p1 (.lst (cutV (ns.map V.int) (some 1) none))=H5 at e5 v5 ⊢
   refine ⟨p1,ns.drop 1,90,rfl,v5,by rw [List.length_drop];omega,λp cs H6 e6 np hcs cl cok=>⟨p,rfl,⟨_,SqL.of hcs⟩,?_⟩⟩
   have e56:=e5.trans e6
   have W6:=W.same e56
   have Ls6:=Ls.ko (KO.of_same e56) (λb vs e=>e56 b _ e)
   have nbp:=(W.same e5).fresh np
   clear W Ls e5 e6 e56 v5 hp1 S4 np
   obtain ⟨bd',hbd⟩:∃ bd',bd'=bad a1 b1 tk kp:=⟨_,rfl⟩
   refine for_list (K:=K) (a:=p) (xs:=cs.map V.int) (λi σ H7=>∃ (S T:YS) (ts:List Int) (kv:List V) (st:Addr),(∃ v10 v11 v12 v13 v14,σ=[some (.ref l),some (.int s),some (.int R),some (.int n),some (.ref ft),some (.ref a1.y),some (.ref b1.y),some (.ref tk),some (.ref st),some (.ref kp),v10,v11,v12,v13,v14])/\W7 w a H7 a1 b1 q S T (2 * i) tk kp kv ts/\LsF (bad a1 b1 tk kp) H7 st S.hs/\H7 p=some (.lst (cs.map V.int)))
     ⟨_,_,_,_,st,⟨_,_,_,_,_,rfl⟩,W6,Ls6,hcs⟩ (λ_ _ _ _ ⟨_,_,_,_,_,_,_,_,z⟩=>SqL.of z) ?_ ?_
   · clear W6 Ls6 hcs H6 st
     rintro i x σ H7 hi ⟨S,T,ts,kv,st,⟨v10,v11,v12,v13,v14,rfl⟩,W,hst,hcs⟩
     obtain ⟨c,hc,rfl⟩:∃ c,c∈cs/\x=.int c:=by
       rw [List.getElem?_map] at hi
       cases e:cs[i]? with
       | none=>rw [e] at hi;cases hi
       | some c=>rw [e] at hi;cases hi;exact ⟨c,List.mem_of_getElem? e,rfl⟩
     have hi90:i < 90:=by have:=(List.getElem?_eq_some_iff.mp hi).1;rw [List.length_map] at this;omega
     obtain ⟨c0,c1⟩:=cok c hc
     clear hi hc
     refine ⟨_,rfl,_,rfl,c,tk,ts,rfl,c0,c1,W.ht,λx t H8 xo nt ht8 e8=>?_⟩
     have tl0:=W.tl
     have kl0:=W.kl
     have iz0:=W.iz
     have W8:=W.same e8
     have hst8:=hst.ko (KO.of_same e8) (λb vs e=>e8 b _ e)
     have hcs8:=e8 _ _ hcs
     clear W hst hcs e8 nt
     refine ⟨_,rfl,_,rfl,a1,q,S,2 * i,x,t,rfl,⟨W8.y,qok,W8.iy,by omega⟩,ht8,xo,λv r H9 Y9 i9 dv9 nr hr9 ko9=>?_⟩
     have hs9:=out_hs (q:=q) (S:=S) x
     have W9:=W8.stepA ko9 Y9 i9 (by rw [hs9];exact W8.fy.app (hap_lay x))
     have tu9:=ko_tups ko9 W8.y.noT
     have kb9:KO (bad a1 b1 tk kp) H8 H9:=ko9.mono λ_=>.inl
     have hst9:=hst8.ko kb9 tu9
     have hcs9:=kb9 _ _ nbp hcs8
     have ht9:=tu9 _ _ ht8
     obtain ⟨key,hkey⟩:∃ key,key=(x.out q S).1:=⟨_,rfl⟩
     obtain ⟨dd,hdd⟩:∃ dd,dd=(x.out q S).2.1:=⟨_,rfl⟩
     have fl9:=out_fl (q:=q) (S:=S) x
     have fc9:x.ftc->Fch dd:=λh=>by rw [hdd];exact out_ftc h
     rw [← hdd] at dv9 fl9
     rw [← hkey] at hr9
     rw [← hkey,← hdd] at hs9
     generalize (x.out q S).2.2=S' at W9 Y9 i9 hs9
     clear hst8 hcs8 ht8 ko9 kb9 tu9 W8 nr
     refine ⟨_,rfl,_,rfl,_,rfl,t,r,x,key,dd,v,rfl,ht9,hr9,dv9,fl9,fc9,λlh tsl H10 e10 nlh hlh dvl=>?_⟩
     have W10:=W9.same e10
     obtain ⟨vs,hs1,hs2,hs3,hs4⟩:=hst9.ko (KO.of_same e10) (λb vs e=>e10 b _ e)
     have ll:=dvs_len hs2
     have ll2:=dvs_len dvl
     have hl3:=hap_len (x:=x) (key:=key) (d:=dd)
     have sl:=W9.iy.hl
     rw [hs9,List.length_append] at sl
     refine ⟨st,lh,vs,tsl,rfl,rfl,hs1,hlh,Nat.le_trans (show _ <= 1000 by omega) (by decide),λst' hst'=>?_⟩
     have e11:=same_new (o:=.lst (vs++tsl)) hst'
     have W11:=W10.same e11
     have nst':=W10.fresh hst'
     have hst11:LsF (bad a1 b1 tk kp) (upd H10 st' (.lst (vs++tsl))) st' S'.hs:=⟨_,upd_same,by rw [hs9];exact DVs.fl (λb vs e=>e11 b _ e) (by rw [← hs9];exact W10.y.fl) (dvs_app hs2 dvl),W10.y.fl,nst'⟩
     have E11:=e10.trans e11
     have hcs11:=E11 _ _ hcs9
     have ht11:=E11 _ _ ht9
     have hr11:=E11 _ _ hr9
     have dv11:=DV.fl (λb vs e=>E11 b _ e) fl9 dv9
     generalize upd H10 st' (.lst (vs++tsl))=H11 at W11 hst11 hcs11 ht11 hr11 dv11 ⊢
     clear hs1 hs2 hs3 hs4 hlh dvl ll ll2 hl3 sl e10 e11 E11 W10 W9 hst9 hcs9 ht9 hr9 dv9 Y9 nlh hst' nst'
     refine ⟨_,rfl,_,rfl,_,rfl,tk,t,r,ts,x,key,dd,v,rfl,W11.ht,ht11,hr11,dv11,fc9,by have:=W11.tl;omega,λH12 h12 kp12=>?_⟩
     have al:(x.aft ts key dd).length <= 2 * i+2:=by
       have:=aft_len (ts:=ts) (x:=x) (key:=key) (d:=dd)
       omega
     have W12:=W11.stepT kp12 h12 al
     have kb12:=W11.koT kp12
     have tu12:=ko_tups kb12 W11.noT
     have hst12:=hst11.ko kb12 tu12
     have hcs12:=kb12 _ _ nbp hcs11
     have ht12:=tu12 _ _ ht11
     generalize x.aft ts key dd=ts' at W12
     clear W11 hst11 hcs11 ht11 hr11 dv11 kb12 tu12 kp12 h12 al
     refine ⟨λσ' H'=>σ'=[some (.ref l),some (.int s),some (.int R),some (.int n),some (.ref ft),some (.ref a1.y),some (.ref b1.y),some (.ref tk),some (.ref st'),some (.ref kp),some (.int c),some (.ref t),some (.ref r),v13,v14]/\∃ T',W7 w a H' a1 b1 q S' T' (2 * i+2) tk kp kv ts'/\LsF (bad a1 b1 tk kp) H' st' S'.hs/\H' p=some (.lst (cs.map V.int)),?_,?_⟩
     · refine ⟨_,rfl,_,_,rfl,rfl,(show (0:Int) < 3 from by decide),rfl,_,rfl,?_⟩
       refine ite2 (λ_=>?_) (λ_=>⟨rfl,T,W12,hst12,hcs12⟩)
       refine ⟨_,rfl,_,rfl,b1,q,T,2 * i,x,t,rfl,⟨W12.z,qok,iz0,by omega⟩,ht12,xo,λv r H13 Z13 i13 dv13 nr hr13 ko13=>⟨rfl,(x.out q T).2.2,?_⟩⟩
       · have kb13:KO (bad a1 b1 tk kp) H12 H13:=ko13.mono λ_ z=>.inr (.inl z)
         exact ⟨W12.stepB ko13 Z13 i13,hst12.ko kb13 (ko_tups kb13 W12.noT),kb13 _ _ nbp hcs12⟩
     · rintro σ' H13 ⟨rfl,T',W13,hst13,hcs13⟩
       clear W12 hst12 hcs12 ht12
       refine ⟨_,rfl,_,_,rfl,rfl,⟨by decide,by decide⟩,_,_,rfl,rfl,(show (0:Int) < 6 from by decide),rfl,_,rfl,?_⟩
       refine ite2 (λ_=>?_) (λ_=>⟨S',T',ts',kv,st',⟨_,_,_,_,_,rfl⟩,W13,hst13,hcs13⟩)
       refine ⟨_,rfl,mthE W13.y.ob (yF_no (by decide +kernel)) ⟨a1,q,S',rfl,W13.y,λlf tsf hlf dvf=>?_⟩⟩
       have e14:=same_new (o:=.lst tsf) hlf
       have nlf:=W13.fresh hlf
       have hlf14:LsF (bad a1 b1 tk kp) (upd H13 lf (.lst tsf)) lf S'.hs:=⟨tsf,upd_same,DVs.fl (λb vs e=>e14 b _ e) W13.y.fl dvf,W13.y.fl,nlf⟩
       have W14:=W13.same e14
       have hst14:=hst13.ko (KO.of_same e14) (λb vs e=>e14 b _ e)
       have hcs14:=e14 _ _ hcs13
       generalize upd H13 lf (.lst tsf)=H14 at hlf14 W14 hst14 hcs14 ⊢
       have fl14:=W14.fy.lay
       refine ⟨_,rfl,_,rfl,.ref lf,.ref st',.list S'.hs,rfl,hlf14.dv,hst14.dv,fl14.1,fl14.2,λH15 e15=>⟨_,rfl,iteF ?_⟩⟩
       have W15:=W14.same e15
       have hlf15:=hlf14.ko (KO.of_same e15) (λb vs e=>e15 b _ e)
       have hst15:=hst14.ko (KO.of_same e15) (λb vs e=>e15 b _ e)
       have hcs15:=e15 _ _ hcs14
       clear W13 hst13 hcs13 hlf dvf e14 W14 hlf14 hst14 hcs14 e15
       refine ⟨_,rfl,.inl ⟨rfl,_,SqL.of W15.hk⟩,_,rfl,_,rfl,l2,λtt htt=>?_⟩
       have e16:=same_new (o:=.tup [V.ref lf,V.ref st']) htt
       have W16:=W15.same e16
       have hlf16:=hlf15.ko (KO.of_same e16) (λb vs e=>e16 b _ e)
       have hst16:=hst15.ko (KO.of_same e16) (λb vs e=>e16 b _ e)
       have hcs16:=e16 _ _ hcs15
       have v16:upd H15 tt (.tup [V.ref lf,V.ref st']) tt=some (.tup [V.ref lf,V.ref st']):=upd_same
       generalize upd H15 tt (.tup [V.ref lf,V.ref st'])=H16 at W16 hlf16 hst16 hcs16 v16 ⊢
       refine ⟨kp,_,_,rfl,rfl,W16.hk,Nat.lt_of_lt_of_le (show _ < 1000 by have:=W16.kl;omega) (by decide),?_⟩
       have kpr:KPr (bad a1 b1 tk kp) H16 (.ref tt):=⟨tt,lf,st',S'.hs,rfl,v16,hlf16,hst16,W16.fy⟩
       have W17:=W16.stepK kpr (by omega)
       have kb17:KO (bad a1 b1 tk kp) H16 (upd H16 kp (.lst (kv++[.ref tt]))):=λc o n e=>by rw [upd_ne (λz=>n (.inr (.inr (.inr z))))];exact e
       have hst17:=hst16.ko kb17 (ko_tups kb17 W16.noT)
       have hcs17:=kb17 _ _ nbp hcs16
       generalize upd H16 kp (.lst (kv++[.ref tt]))=H17 at W17 hst17 hcs17 ⊢
       refine ⟨_,rfl,mthE W17.y.ob (yF_no (by decide +kernel)) ⟨a1,q,S',rfl,W17.y,λlg tsg hlg _=>?_⟩⟩
       have e18:Same H17 (upd (upd H17 lg (.lst tsg)) lg (.lst [])):=λc o e=>by
         have:=ne_of_none e hlg
         rw [upd_ne this,upd_ne this];exact e
       exact ⟨.inl ⟨rfl,_,SqL.of upd_same⟩,lg,_,rfl,rfl,upd_same,S',T',ts',kv++[.ref tt],st',⟨_,_,_,_,_,rfl⟩,W17.same e18,hst17.ko (KO.of_same e18) (λb vs e=>e18 b _ e),e18 _ _ hcs17⟩
   · rintro σ H7 ⟨S,T,ts,kv,st,⟨v10,v11,v12,v13,v14,rfl⟩,W,hst,hcs⟩
     refine ⟨_,rfl,kp,rfl,⟨_,SqL.of W.hk⟩,?_⟩
     refine for_list (K:=K) (a:=kp) (xs:=kv) (λi σ H8=>(∃ v13 v14,σ=[some (.ref l),some (.int s),some (.int R),some (.int n),some (.ref ft),some (.ref a1.y),some (.ref b1.y),some (.ref tk),some (.ref st),some (.ref kp),v10,v11,v12,v13,v14])/\H8=H7)
       ⟨⟨_,_,rfl⟩,rfl⟩ (λ_ _ _ _ ⟨_,z⟩=>by rw [z];exact SqL.of W.hk) ?_ ?_
     · rintro i x σ H8 hi ⟨⟨v13,v14,rfl⟩,rfl⟩
       obtain ⟨t,f,s2,ds,rfl,h1,h2,h3,h4⟩:=W.kk x (List.mem_of_getElem? hi)
       refine ⟨t,_,rfl,SqT.of h1,rfl,_,_,rfl,_,_,rfl,rfl,?_⟩
       refine ⟨_,rfl,_,rfl,.list ds,.list ds,h2.dv,h3.dv,h4.lay.1,h4.lay.1,_,rfl,?_⟩
       simp only [if_true]
       rw [eqv_lay h4.lay.1]
       exact iteF ⟨⟨_,_,rfl⟩,rfl⟩
     · rintro σ H8 ⟨⟨v13,v14,rfl⟩,rfl⟩
       refine ⟨_,rfl,mthE W.y.ob (yF_no (by decide +kernel)) ⟨a1,q,S,rfl,W.y,λlf tsf hlf dvf=>?_⟩⟩
       have e9:=same_new (o:=.lst tsf) hlf
       have st9:=hst.ko (KO.of_same e9) (λb vs e=>e9 b _ e)
       have fl9:=W.fy.lay
       exact ⟨_,rfl,.ref lf,.ref st,.list S.hs,rfl,⟨lf,tsf,rfl,upd_same,DVs.fl (λb vs e=>e9 b _ e) W.y.fl dvf⟩,st9.dv,fl9.1,fl9.2,λH' _=>k _⟩
end

theorem all_mk {l:PySem.W.OpenLaw} {w:World} {K:PySem.W.Frag} {h:Heap} {mg:Str->Option Value} {fa:Addr} (X:K.In h) (G:h.Ns mainGlobals mg) (hfa:mg "law"=some (.ref fa))
   {f_z0 f_z1 f_z2 f_z3 f_z4 f_z5 f_z6 f_z7 f_z8 f_z9 f_z10 f_z11 f_z12 f_z13 f_z14 f_z15 f_z16 f_z17 f_z18 f_z19 f_z20 f_z21 f_z22 f_z23 f_z24 f_z25 f_z26 f_z27 f_z28 f_z29 f_z30 f_z31 f_z32 f_z33 f_z34 f_z35 f_z36 f_z37 f_z38 f_z39 f_z40 f_z41 f_z42 f_z43 f_z44 f_z45 f_z46 f_z47 f_z48 f_z49 f_z50 f_z51 f_z52 f_z53 f_z54 f_z55 C_Ring C_Hand C_Heart C_Store C_Yard C_RingError C_Full C_NoName C_NoTask C_NoDeed T_ASKS T_ANSWERS T_SLEEP_CELLS T_FORMS V_FORMS_0 V_FORMS_1 V_FORMS_2 V_FORMS_3 V_FORMS_4 V_FORMS_5 V_FORMS_6 V_FORMS_7:Addr}
   {tod_ASKS:Option Addr} {tsl_ASKS:Array (Option Value)} {tn_ASKS:Nat} {tt0_ASKS tt1_ASKS tt2_ASKS:Tok}
   {tod_ANSWERS:Option Addr} {tsl_ANSWERS:Array (Option Value)} {tn_ANSWERS:Nat} {tt0_ANSWERS tt1_ANSWERS tt2_ANSWERS:Tok}
   {tod_SLEEP_CELLS:Option Addr} {tsl_SLEEP_CELLS:Array (Option Value)} {tn_SLEEP_CELLS:Nat} {tt0_SLEEP_CELLS tt1_SLEEP_CELLS:Tok}
   {ti_MOST_WORTH:Tok}
   {tep_FORMS:Nat} {th0_FORMS th1_FORMS th2_FORMS th3_FORMS th4_FORMS th5_FORMS th6_FORMS th7_FORMS:Int} {tk0_FORMS tk1_FORMS tk2_FORMS tk3_FORMS tk4_FORMS tk5_FORMS tk6_FORMS tk7_FORMS:Tok}
   {vod0_FORMS:Option Addr} {vsl0_FORMS:Array (Option Value)} {vn0_FORMS:Nat} {vt0_0_FORMS:Tok}
   {vod1_FORMS:Option Addr} {vsl1_FORMS:Array (Option Value)} {vn1_FORMS:Nat}
   {vod2_FORMS:Option Addr} {vsl2_FORMS:Array (Option Value)} {vn2_FORMS:Nat}
   {vod3_FORMS:Option Addr} {vsl3_FORMS:Array (Option Value)} {vn3_FORMS:Nat} {vt3_0_FORMS vt3_1_FORMS:Tok}
   {vod4_FORMS:Option Addr} {vsl4_FORMS:Array (Option Value)} {vn4_FORMS:Nat} {vt4_0_FORMS:Tok}
   {vod5_FORMS:Option Addr} {vsl5_FORMS:Array (Option Value)} {vn5_FORMS:Nat} {vt5_0_FORMS:Tok}
   {vod6_FORMS:Option Addr} {vsl6_FORMS:Array (Option Value)} {vn6_FORMS:Nat} {vt6_0_FORMS:Tok}
   {vod7_FORMS:Option Addr} {vsl7_FORMS:Array (Option Value)} {vn7_FORMS:Nat} {vt7_0_FORMS:Tok}
   {od_z0 an_z0:Option Addr} {sl_z0:Array (Option Value)} {oc_z0 kV_z0 dc_z0 pm_z0 cd_z0 ct_z0:Value}
   {od_z1 an_z1:Option Addr} {sl_z1:Array (Option Value)} {oc_z1 kV_z1 dc_z1 pm_z1 cd_z1 ct_z1:Value}
   {od_z2 an_z2:Option Addr} {sl_z2:Array (Option Value)} {oc_z2 kV_z2 dc_z2 pm_z2 cd_z2 ct_z2:Value}
   {od_z3 an_z3:Option Addr} {sl_z3:Array (Option Value)} {oc_z3 kV_z3 dc_z3 pm_z3 cd_z3 ct_z3:Value}
   {od_z4 an_z4:Option Addr} {sl_z4:Array (Option Value)} {oc_z4 kV_z4 dc_z4 pm_z4 cd_z4 ct_z4:Value}
   {od_z5 an_z5:Option Addr} {sl_z5:Array (Option Value)} {oc_z5 kV_z5 dc_z5 pm_z5 cd_z5 ct_z5:Value}
   {od_z6 an_z6:Option Addr} {sl_z6:Array (Option Value)} {oc_z6 kV_z6 dc_z6 pm_z6 cd_z6 ct_z6:Value}
   {od_z7 an_z7:Option Addr} {sl_z7:Array (Option Value)} {oc_z7 kV_z7 dc_z7 pm_z7 cd_z7 ct_z7:Value}
   {od_z8 an_z8:Option Addr} {sl_z8:Array (Option Value)} {oc_z8 kV_z8 dc_z8 pm_z8 cd_z8 ct_z8:Value}
   {od_z9 an_z9:Option Addr} {sl_z9:Array (Option Value)} {oc_z9 kV_z9 dc_z9 pm_z9 cd_z9 ct_z9:Value}
   {od_z10 an_z10:Option Addr} {sl_z10:Array (Option Value)} {oc_z10 kV_z10 dc_z10 pm_z10 cd_z10 ct_z10:Value}
   {od_z11 an_z11:Option Addr} {sl_z11:Array (Option Value)} {oc_z11 kV_z11 dc_z11 pm_z11 cd_z11 ct_z11:Value}
   {od_z12 an_z12:Option Addr} {sl_z12:Array (Option Value)} {oc_z12 kV_z12 dc_z12 pm_z12 cd_z12 ct_z12:Value}
   {od_z13 an_z13:Option Addr} {sl_z13:Array (Option Value)} {oc_z13 kV_z13 dc_z13 pm_z13 cd_z13 ct_z13:Value}
   {od_z14 an_z14:Option Addr} {sl_z14:Array (Option Value)} {oc_z14 kV_z14 dc_z14 pm_z14 cd_z14 ct_z14:Value}
   {od_z15 an_z15:Option Addr} {sl_z15:Array (Option Value)} {oc_z15 kV_z15 dc_z15 pm_z15 cd_z15 ct_z15:Value}
   {od_z16 an_z16:Option Addr} {sl_z16:Array (Option Value)} {oc_z16 kV_z16 dc_z16 pm_z16 cd_z16 ct_z16:Value}
   {od_z17 an_z17:Option Addr} {sl_z17:Array (Option Value)} {oc_z17 kV_z17 dc_z17 pm_z17 cd_z17 ct_z17:Value}
   {od_z18 an_z18:Option Addr} {sl_z18:Array (Option Value)} {oc_z18 kV_z18 dc_z18 pm_z18 cd_z18 ct_z18:Value}
   {od_z19 an_z19:Option Addr} {sl_z19:Array (Option Value)} {oc_z19 kV_z19 dc_z19 pm_z19 cd_z19 ct_z19:Value}
   {od_z20 an_z20:Option Addr} {sl_z20:Array (Option Value)} {oc_z20 kV_z20 dc_z20 pm_z20 cd_z20 ct_z20:Value}
   {od_z21 an_z21:Option Addr} {sl_z21:Array (Option Value)} {oc_z21 kV_z21 dc_z21 pm_z21 cd_z21 ct_z21:Value}
   {od_z22 an_z22:Option Addr} {sl_z22:Array (Option Value)} {oc_z22 kV_z22 dc_z22 pm_z22 cd_z22 ct_z22:Value}
   {od_z23 an_z23:Option Addr} {sl_z23:Array (Option Value)} {oc_z23 kV_z23 dc_z23 pm_z23 cd_z23 ct_z23:Value}
   {od_z24 an_z24:Option Addr} {sl_z24:Array (Option Value)} {oc_z24 kV_z24 dc_z24 pm_z24 cd_z24 ct_z24:Value}
   {od_z25 an_z25:Option Addr} {sl_z25:Array (Option Value)} {oc_z25 kV_z25 dc_z25 pm_z25 cd_z25 ct_z25:Value}
   {od_z26 an_z26:Option Addr} {sl_z26:Array (Option Value)} {oc_z26 kV_z26 dc_z26 pm_z26 cd_z26 ct_z26:Value}
   {od_z27 an_z27:Option Addr} {sl_z27:Array (Option Value)} {oc_z27 kV_z27 dc_z27 pm_z27 cd_z27 ct_z27:Value}
   {od_z28 an_z28:Option Addr} {sl_z28:Array (Option Value)} {oc_z28 kV_z28 dc_z28 pm_z28 cd_z28 ct_z28:Value}
   {od_z29 an_z29:Option Addr} {sl_z29:Array (Option Value)} {oc_z29 kV_z29 dc_z29 pm_z29 cd_z29 ct_z29:Value}
   {od_z30 an_z30:Option Addr} {sl_z30:Array (Option Value)} {oc_z30 kV_z30 dc_z30 pm_z30 cd_z30 ct_z30:Value}
   {od_z31 an_z31:Option Addr} {sl_z31:Array (Option Value)} {oc_z31 kV_z31 dc_z31 pm_z31 cd_z31 ct_z31:Value}
   {od_z32 an_z32:Option Addr} {sl_z32:Array (Option Value)} {oc_z32 kV_z32 dc_z32 pm_z32 cd_z32 ct_z32:Value}
   {od_z33 an_z33:Option Addr} {sl_z33:Array (Option Value)} {oc_z33 kV_z33 dc_z33 pm_z33 cd_z33 ct_z33:Value}
   {od_z34 an_z34:Option Addr} {sl_z34:Array (Option Value)} {oc_z34 kV_z34 dc_z34 pm_z34 cd_z34 ct_z34:Value}
   {od_z35 an_z35:Option Addr} {sl_z35:Array (Option Value)} {oc_z35 kV_z35 dc_z35 pm_z35 cd_z35 ct_z35:Value}
   {od_z36 an_z36:Option Addr} {sl_z36:Array (Option Value)} {oc_z36 kV_z36 dc_z36 pm_z36 cd_z36 ct_z36:Value}
   {od_z37 an_z37:Option Addr} {sl_z37:Array (Option Value)} {oc_z37 kV_z37 dc_z37 pm_z37 cd_z37 ct_z37:Value}
   {od_z38 an_z38:Option Addr} {sl_z38:Array (Option Value)} {oc_z38 kV_z38 dc_z38 pm_z38 cd_z38 ct_z38:Value}
   {od_z39 an_z39:Option Addr} {sl_z39:Array (Option Value)} {oc_z39 kV_z39 dc_z39 pm_z39 cd_z39 ct_z39:Value}
   {od_z40 an_z40:Option Addr} {sl_z40:Array (Option Value)} {oc_z40 kV_z40 dc_z40 pm_z40 cd_z40 ct_z40:Value}
   {od_z41 an_z41:Option Addr} {sl_z41:Array (Option Value)} {oc_z41 kV_z41 dc_z41 pm_z41 cd_z41 ct_z41:Value}
   {od_z42 an_z42:Option Addr} {sl_z42:Array (Option Value)} {oc_z42 kV_z42 dc_z42 pm_z42 cd_z42 ct_z42:Value}
   {od_z43 an_z43:Option Addr} {sl_z43:Array (Option Value)} {oc_z43 kV_z43 dc_z43 pm_z43 cd_z43 ct_z43:Value}
   {od_z44 an_z44:Option Addr} {sl_z44:Array (Option Value)} {oc_z44 kV_z44 dc_z44 pm_z44 cd_z44 ct_z44:Value}
   {od_z45 an_z45:Option Addr} {sl_z45:Array (Option Value)} {oc_z45 kV_z45 dc_z45 pm_z45 cd_z45 ct_z45:Value}
   {od_z46 an_z46:Option Addr} {sl_z46:Array (Option Value)} {oc_z46 kV_z46 dc_z46 pm_z46 cd_z46 ct_z46:Value}
   {od_z47 an_z47:Option Addr} {sl_z47:Array (Option Value)} {oc_z47 kV_z47 dc_z47 pm_z47 cd_z47 ct_z47:Value}
   {od_z48 an_z48:Option Addr} {sl_z48:Array (Option Value)} {oc_z48 kV_z48 dc_z48 pm_z48 cd_z48 ct_z48:Value}
   {od_z49 an_z49:Option Addr} {sl_z49:Array (Option Value)} {oc_z49 kV_z49 dc_z49 pm_z49 cd_z49 ct_z49:Value}
   {od_z50 an_z50:Option Addr} {sl_z50:Array (Option Value)} {oc_z50 kV_z50 dc_z50 pm_z50 cd_z50 ct_z50:Value}
   {od_z51 an_z51:Option Addr} {sl_z51:Array (Option Value)} {oc_z51 kV_z51 dc_z51 pm_z51 cd_z51 ct_z51:Value}
   {od_z52 an_z52:Option Addr} {sl_z52:Array (Option Value)} {oc_z52 kV_z52 dc_z52 pm_z52 cd_z52 ct_z52:Value}
   {od_z53 an_z53:Option Addr} {sl_z53:Array (Option Value)} {oc_z53 kV_z53 dc_z53 pm_z53 cd_z53 ct_z53:Value}
   {od_z54 an_z54:Option Addr} {sl_z54:Array (Option Value)} {oc_z54 kV_z54 dc_z54 pm_z54 cd_z54 ct_z54:Value}
   {od_z55 an_z55:Option Addr} {sl_z55:Array (Option Value)} {oc_z55 kV_z55 dc_z55 pm_z55 cd_z55 ct_z55:Value}
   (aC_Ring:PySem.W.nsIn K mainGlobals "Ring"=some (some (.ref C_Ring)))
   (aC_Hand:PySem.W.nsIn K mainGlobals "Hand"=some (some (.ref C_Hand)))
   (aC_Heart:PySem.W.nsIn K mainGlobals "Heart"=some (some (.ref C_Heart)))
   (aC_Store:PySem.W.nsIn K mainGlobals "Store"=some (some (.ref C_Store)))
   (aC_Yard:PySem.W.nsIn K mainGlobals "Yard"=some (some (.ref C_Yard)))
   (a_z0:PySem.W.nsIn K mainGlobals "next_counter"=some (some (.ref f_z0)))
   (l_z0:K.lookup f_z0=some ⟨oc_z0,od_z0,.func (PySem.W.fnOf "next_counter" "next_counter" (defArgs s_next_counter) (defBody s_next_counter) (defScope s_next_counter) .none kV_z0 dc_z0 pm_z0 an_z0 cd_z0 ct_z0),sl_z0⟩)
   (c_z0:PySem.W.codeIn K cd_z0 "next_counter"=true)
   (k_z0:PySem.W.keepIn K (.ref f_z0)=true)
   (a_z1:PySem.W.nsIn K mainGlobals "place_of"=some (some (.ref f_z1)))
   (l_z1:K.lookup f_z1=some ⟨oc_z1,od_z1,.func (PySem.W.fnOf "place_of" "place_of" (defArgs s_place_of) (defBody s_place_of) (defScope s_place_of) .none kV_z1 dc_z1 pm_z1 an_z1 cd_z1 ct_z1),sl_z1⟩)
   (c_z1:PySem.W.codeIn K cd_z1 "place_of"=true)
   (k_z1:PySem.W.keepIn K (.ref f_z1)=true)
   (a_z2:PySem.W.nsIn K mainGlobals "ahead_by"=some (some (.ref f_z2)))
   (l_z2:K.lookup f_z2=some ⟨oc_z2,od_z2,.func (PySem.W.fnOf "ahead_by" "ahead_by" (defArgs s_ahead_by) (defBody s_ahead_by) (defScope s_ahead_by) .none kV_z2 dc_z2 pm_z2 an_z2 cd_z2 ct_z2),sl_z2⟩)
   (c_z2:PySem.W.codeIn K cd_z2 "ahead_by"=true)
   (k_z2:PySem.W.keepIn K (.ref f_z2)=true)
   (a_z3:PySem.W.nsIn K mainGlobals "rounds_with"=some (some (.ref f_z3)))
   (l_z3:K.lookup f_z3=some ⟨oc_z3,od_z3,.func (PySem.W.fnOf "rounds_with" "rounds_with" (defArgs s_rounds_with) (defBody s_rounds_with) (defScope s_rounds_with) .none kV_z3 dc_z3 pm_z3 an_z3 cd_z3 ct_z3),sl_z3⟩)
   (c_z3:PySem.W.codeIn K cd_z3 "rounds_with"=true)
   (k_z3:PySem.W.keepIn K (.ref f_z3)=true)
   (a_z4:PySem.W.findIn K (.ref C_Ring) "__init__"=some (some (.ref f_z4)))
   (i_z4:PySem.W.isFn K (.ref f_z4)=true)
   (l_z4:K.lookup f_z4=some ⟨oc_z4,od_z4,.func (PySem.W.fnOf "__init__" "Ring.__init__" (defArgs s_Ring__init) (defBody s_Ring__init) (defScope s_Ring__init) .none kV_z4 dc_z4 pm_z4 an_z4 cd_z4 ct_z4),sl_z4⟩)
   (c_z4:PySem.W.codeIn K cd_z4 "Ring.__init__"=true)
   (k_z4:PySem.W.keepIn K (.ref f_z4)=true)
   (a_z5:PySem.W.findIn K (.ref C_Ring) "filled"=some (some (.ref f_z5)))
   (i_z5:PySem.W.isFn K (.ref f_z5)=true)
   (l_z5:K.lookup f_z5=some ⟨oc_z5,od_z5,.func (PySem.W.fnOf "filled" "Ring.filled" (defArgs s_Ring_filled) (defBody s_Ring_filled) (defScope s_Ring_filled) .none kV_z5 dc_z5 pm_z5 an_z5 cd_z5 ct_z5),sl_z5⟩)
   (c_z5:PySem.W.codeIn K cd_z5 "Ring.filled"=true)
   (k_z5:PySem.W.keepIn K (.ref f_z5)=true)
   (a_z6:PySem.W.findIn K (.ref C_Ring) "is_full"=some (some (.ref f_z6)))
   (i_z6:PySem.W.isFn K (.ref f_z6)=true)
   (l_z6:K.lookup f_z6=some ⟨oc_z6,od_z6,.func (PySem.W.fnOf "is_full" "Ring.is_full" (defArgs s_Ring_is_full) (defBody s_Ring_is_full) (defScope s_Ring_is_full) .none kV_z6 dc_z6 pm_z6 an_z6 cd_z6 ct_z6),sl_z6⟩)
   (c_z6:PySem.W.codeIn K cd_z6 "Ring.is_full"=true)
   (k_z6:PySem.W.keepIn K (.ref f_z6)=true)
   (a_z7:PySem.W.findIn K (.ref C_Ring) "place_at"=some (some (.ref f_z7)))
   (i_z7:PySem.W.isFn K (.ref f_z7)=true)
   (l_z7:K.lookup f_z7=some ⟨oc_z7,od_z7,.func (PySem.W.fnOf "place_at" "Ring.place_at" (defArgs s_Ring_place_at) (defBody s_Ring_place_at) (defScope s_Ring_place_at) .none kV_z7 dc_z7 pm_z7 an_z7 cd_z7 ct_z7),sl_z7⟩)
   (c_z7:PySem.W.codeIn K cd_z7 "Ring.place_at"=true)
   (k_z7:PySem.W.keepIn K (.ref f_z7)=true)
   (a_z8:PySem.W.findIn K (.ref C_Ring) "write_further"=some (some (.ref f_z8)))
   (i_z8:PySem.W.isFn K (.ref f_z8)=true)
   (l_z8:K.lookup f_z8=some ⟨oc_z8,od_z8,.func (PySem.W.fnOf "write_further" "Ring.write_further" (defArgs s_Ring_write_further) (defBody s_Ring_write_further) (defScope s_Ring_write_further) .none kV_z8 dc_z8 pm_z8 an_z8 cd_z8 ct_z8),sl_z8⟩)
   (c_z8:PySem.W.codeIn K cd_z8 "Ring.write_further"=true)
   (k_z8:PySem.W.keepIn K (.ref f_z8)=true)
   (a_z9:PySem.W.findIn K (.ref C_Ring) "lay"=some (some (.ref f_z9)))
   (i_z9:PySem.W.isFn K (.ref f_z9)=true)
   (l_z9:K.lookup f_z9=some ⟨oc_z9,od_z9,.func (PySem.W.fnOf "lay" "Ring.lay" (defArgs s_Ring_lay) (defBody s_Ring_lay) (defScope s_Ring_lay) .none kV_z9 dc_z9 pm_z9 an_z9 cd_z9 ct_z9),sl_z9⟩)
   (c_z9:PySem.W.codeIn K cd_z9 "Ring.lay"=true)
   (k_z9:PySem.W.keepIn K (.ref f_z9)=true)
   (a_z10:PySem.W.findIn K (.ref C_Ring) "fetch"=some (some (.ref f_z10)))
   (i_z10:PySem.W.isFn K (.ref f_z10)=true)
   (l_z10:K.lookup f_z10=some ⟨oc_z10,od_z10,.func (PySem.W.fnOf "fetch" "Ring.fetch" (defArgs s_Ring_fetch) (defBody s_Ring_fetch) (defScope s_Ring_fetch) .none kV_z10 dc_z10 pm_z10 an_z10 cd_z10 ct_z10),sl_z10⟩)
   (c_z10:PySem.W.codeIn K cd_z10 "Ring.fetch"=true)
   (k_z10:PySem.W.keepIn K (.ref f_z10)=true)
   (a_z11:PySem.W.findIn K (.ref C_Hand) "__init__"=some (some (.ref f_z11)))
   (i_z11:PySem.W.isFn K (.ref f_z11)=true)
   (l_z11:K.lookup f_z11=some ⟨oc_z11,od_z11,.func (PySem.W.fnOf "__init__" "Hand.__init__" (defArgs s_Hand__init) (defBody s_Hand__init) (defScope s_Hand__init) .none kV_z11 dc_z11 pm_z11 an_z11 cd_z11 ct_z11),sl_z11⟩)
   (c_z11:PySem.W.codeIn K cd_z11 "Hand.__init__"=true)
   (k_z11:PySem.W.keepIn K (.ref f_z11)=true)
   (a_z12:PySem.W.findIn K (.ref C_Hand) "least_free"=some (some (.ref f_z12)))
   (i_z12:PySem.W.isFn K (.ref f_z12)=true)
   (l_z12:K.lookup f_z12=some ⟨oc_z12,od_z12,.func (PySem.W.fnOf "least_free" "Hand.least_free" (defArgs s_Hand_least_free) (defBody s_Hand_least_free) (defScope s_Hand_least_free) .none kV_z12 dc_z12 pm_z12 an_z12 cd_z12 ct_z12),sl_z12⟩)
   (c_z12:PySem.W.codeIn K cd_z12 "Hand.least_free"=true)
   (k_z12:PySem.W.keepIn K (.ref f_z12)=true)
   (a_z13:PySem.W.findIn K (.ref C_Hand) "check_ask"=some (some (.ref f_z13)))
   (i_z13:PySem.W.isFn K (.ref f_z13)=true)
   (l_z13:K.lookup f_z13=some ⟨oc_z13,od_z13,.func (PySem.W.fnOf "check_ask" "Hand.check_ask" (defArgs s_Hand_check_ask) (defBody s_Hand_check_ask) (defScope s_Hand_check_ask) .none kV_z13 dc_z13 pm_z13 an_z13 cd_z13 ct_z13),sl_z13⟩)
   (c_z13:PySem.W.codeIn K cd_z13 "Hand.check_ask"=true)
   (k_z13:PySem.W.keepIn K (.ref f_z13)=true)
   (a_z14:PySem.W.findIn K (.ref C_Hand) "ask"=some (some (.ref f_z14)))
   (i_z14:PySem.W.isFn K (.ref f_z14)=true)
   (l_z14:K.lookup f_z14=some ⟨oc_z14,od_z14,.func (PySem.W.fnOf "ask" "Hand.ask" (defArgs s_Hand_ask) (defBody s_Hand_ask) (defScope s_Hand_ask) .none kV_z14 dc_z14 pm_z14 an_z14 cd_z14 ct_z14),sl_z14⟩)
   (c_z14:PySem.W.codeIn K cd_z14 "Hand.ask"=true)
   (k_z14:PySem.W.keepIn K (.ref f_z14)=true)
   (a_z15:PySem.W.findIn K (.ref C_Hand) "collect"=some (some (.ref f_z15)))
   (i_z15:PySem.W.isFn K (.ref f_z15)=true)
   (l_z15:K.lookup f_z15=some ⟨oc_z15,od_z15,.func (PySem.W.fnOf "collect" "Hand.collect" (defArgs s_Hand_collect) (defBody s_Hand_collect) (defScope s_Hand_collect) .none kV_z15 dc_z15 pm_z15 an_z15 cd_z15 ct_z15),sl_z15⟩)
   (c_z15:PySem.W.codeIn K cd_z15 "Hand.collect"=true)
   (k_z15:PySem.W.keepIn K (.ref f_z15)=true)
   (a_z16:PySem.W.findIn K (.ref C_Hand) "something_waits"=some (some (.ref f_z16)))
   (i_z16:PySem.W.isFn K (.ref f_z16)=true)
   (l_z16:K.lookup f_z16=some ⟨oc_z16,od_z16,.func (PySem.W.fnOf "something_waits" "Hand.something_waits" (defArgs s_Hand_something_waits) (defBody s_Hand_something_waits) (defScope s_Hand_something_waits) .none kV_z16 dc_z16 pm_z16 an_z16 cd_z16 ct_z16),sl_z16⟩)
   (c_z16:PySem.W.codeIn K cd_z16 "Hand.something_waits"=true)
   (k_z16:PySem.W.keepIn K (.ref f_z16)=true)
   (a_z17:PySem.W.findIn K (.ref C_Heart) "__init__"=some (some (.ref f_z17)))
   (i_z17:PySem.W.isFn K (.ref f_z17)=true)
   (l_z17:K.lookup f_z17=some ⟨oc_z17,od_z17,.func (PySem.W.fnOf "__init__" "Heart.__init__" (defArgs s_Heart__init) (defBody s_Heart__init) (defScope s_Heart__init) .none kV_z17 dc_z17 pm_z17 an_z17 cd_z17 ct_z17),sl_z17⟩)
   (c_z17:PySem.W.codeIn K cd_z17 "Heart.__init__"=true)
   (k_z17:PySem.W.keepIn K (.ref f_z17)=true)
   (a_z18:PySem.W.findIn K (.ref C_Heart) "take"=some (some (.ref f_z18)))
   (i_z18:PySem.W.isFn K (.ref f_z18)=true)
   (l_z18:K.lookup f_z18=some ⟨oc_z18,od_z18,.func (PySem.W.fnOf "take" "Heart.take" (defArgs s_Heart_take) (defBody s_Heart_take) (defScope s_Heart_take) .none kV_z18 dc_z18 pm_z18 an_z18 cd_z18 ct_z18),sl_z18⟩)
   (c_z18:PySem.W.codeIn K cd_z18 "Heart.take"=true)
   (k_z18:PySem.W.keepIn K (.ref f_z18)=true)
   (a_z19:PySem.W.findIn K (.ref C_Heart) "check_answer"=some (some (.ref f_z19)))
   (i_z19:PySem.W.isFn K (.ref f_z19)=true)
   (l_z19:K.lookup f_z19=some ⟨oc_z19,od_z19,.func (PySem.W.fnOf "check_answer" "Heart.check_answer" (defArgs s_Heart_check_answer) (defBody s_Heart_check_answer) (defScope s_Heart_check_answer) .none kV_z19 dc_z19 pm_z19 an_z19 cd_z19 ct_z19),sl_z19⟩)
   (c_z19:PySem.W.codeIn K cd_z19 "Heart.check_answer"=true)
   (k_z19:PySem.W.keepIn K (.ref f_z19)=true)
   (a_z20:PySem.W.findIn K (.ref C_Heart) "answer"=some (some (.ref f_z20)))
   (i_z20:PySem.W.isFn K (.ref f_z20)=true)
   (l_z20:K.lookup f_z20=some ⟨oc_z20,od_z20,.func (PySem.W.fnOf "answer" "Heart.answer" (defArgs s_Heart_answer) (defBody s_Heart_answer) (defScope s_Heart_answer) .none kV_z20 dc_z20 pm_z20 an_z20 cd_z20 ct_z20),sl_z20⟩)
   (c_z20:PySem.W.codeIn K cd_z20 "Heart.answer"=true)
   (k_z20:PySem.W.keepIn K (.ref f_z20)=true)
   (a_z21:PySem.W.findIn K (.ref C_Heart) "tasks"=some (some (.ref f_z21)))
   (i_z21:PySem.W.isFn K (.ref f_z21)=true)
   (l_z21:K.lookup f_z21=some ⟨oc_z21,od_z21,.func (PySem.W.fnOf "tasks" "Heart.tasks" (defArgs s_Heart_tasks) (defBody s_Heart_tasks) (defScope s_Heart_tasks) .none kV_z21 dc_z21 pm_z21 an_z21 cd_z21 ct_z21),sl_z21⟩)
   (c_z21:PySem.W.codeIn K cd_z21 "Heart.tasks"=true)
   (k_z21:PySem.W.keepIn K (.ref f_z21)=true)
   (a_z22:PySem.W.findIn K (.ref C_Heart) "something_waits"=some (some (.ref f_z22)))
   (i_z22:PySem.W.isFn K (.ref f_z22)=true)
   (l_z22:K.lookup f_z22=some ⟨oc_z22,od_z22,.func (PySem.W.fnOf "something_waits" "Heart.something_waits" (defArgs s_Heart_something_waits) (defBody s_Heart_something_waits) (defScope s_Heart_something_waits) .none kV_z22 dc_z22 pm_z22 an_z22 cd_z22 ct_z22),sl_z22⟩)
   (c_z22:PySem.W.codeIn K cd_z22 "Heart.something_waits"=true)
   (k_z22:PySem.W.keepIn K (.ref f_z22)=true)
   (a_z23:PySem.W.findIn K (.ref C_Store) "__init__"=some (some (.ref f_z23)))
   (i_z23:PySem.W.isFn K (.ref f_z23)=true)
   (l_z23:K.lookup f_z23=some ⟨oc_z23,od_z23,.func (PySem.W.fnOf "__init__" "Store.__init__" (defArgs s_Store__init) (defBody s_Store__init) (defScope s_Store__init) .none kV_z23 dc_z23 pm_z23 an_z23 cd_z23 ct_z23),sl_z23⟩)
   (c_z23:PySem.W.codeIn K cd_z23 "Store.__init__"=true)
   (k_z23:PySem.W.keepIn K (.ref f_z23)=true)
   (a_z24:PySem.W.findIn K (.ref C_Store) "write"=some (some (.ref f_z24)))
   (i_z24:PySem.W.isFn K (.ref f_z24)=true)
   (l_z24:K.lookup f_z24=some ⟨oc_z24,od_z24,.func (PySem.W.fnOf "write" "Store.write" (defArgs s_Store_write) (defBody s_Store_write) (defScope s_Store_write) .none kV_z24 dc_z24 pm_z24 an_z24 cd_z24 ct_z24),sl_z24⟩)
   (c_z24:PySem.W.codeIn K cd_z24 "Store.write"=true)
   (k_z24:PySem.W.keepIn K (.ref f_z24)=true)
   (a_z25:PySem.W.findIn K (.ref C_Store) "drain"=some (some (.ref f_z25)))
   (i_z25:PySem.W.isFn K (.ref f_z25)=true)
   (l_z25:K.lookup f_z25=some ⟨oc_z25,od_z25,.func (PySem.W.fnOf "drain" "Store.drain" (defArgs s_Store_drain) (defBody s_Store_drain) (defScope s_Store_drain) .none kV_z25 dc_z25 pm_z25 an_z25 cd_z25 ct_z25),sl_z25⟩)
   (c_z25:PySem.W.codeIn K cd_z25 "Store.drain"=true)
   (k_z25:PySem.W.keepIn K (.ref f_z25)=true)
   (a_z26:PySem.W.findIn K (.ref C_Store) "fence"=some (some (.ref f_z26)))
   (i_z26:PySem.W.isFn K (.ref f_z26)=true)
   (l_z26:K.lookup f_z26=some ⟨oc_z26,od_z26,.func (PySem.W.fnOf "fence" "Store.fence" (defArgs s_Store_fence) (defBody s_Store_fence) (defScope s_Store_fence) .none kV_z26 dc_z26 pm_z26 an_z26 cd_z26 ct_z26),sl_z26⟩)
   (c_z26:PySem.W.codeIn K cd_z26 "Store.fence"=true)
   (k_z26:PySem.W.keepIn K (.ref f_z26)=true)
   (a_z27:PySem.W.findIn K (.ref C_Store) "read"=some (some (.ref f_z27)))
   (i_z27:PySem.W.isFn K (.ref f_z27)=true)
   (l_z27:K.lookup f_z27=some ⟨oc_z27,od_z27,.func (PySem.W.fnOf "read" "Store.read" (defArgs s_Store_read) (defBody s_Store_read) (defScope s_Store_read) .none kV_z27 dc_z27 pm_z27 an_z27 cd_z27 ct_z27),sl_z27⟩)
   (c_z27:PySem.W.codeIn K cd_z27 "Store.read"=true)
   (k_z27:PySem.W.keepIn K (.ref f_z27)=true)
   (a_z28:PySem.W.findIn K (.ref C_Store) "memory"=some (some (.ref f_z28)))
   (i_z28:PySem.W.isFn K (.ref f_z28)=true)
   (l_z28:K.lookup f_z28=some ⟨oc_z28,od_z28,.func (PySem.W.fnOf "memory" "Store.memory" (defArgs s_Store_memory) (defBody s_Store_memory) (defScope s_Store_memory) .none kV_z28 dc_z28 pm_z28 an_z28 cd_z28 ct_z28),sl_z28⟩)
   (c_z28:PySem.W.codeIn K cd_z28 "Store.memory"=true)
   (k_z28:PySem.W.keepIn K (.ref f_z28)=true)
   (a_z29:PySem.W.findIn K (.ref C_Store) "waits"=some (some (.ref f_z29)))
   (i_z29:PySem.W.isFn K (.ref f_z29)=true)
   (l_z29:K.lookup f_z29=some ⟨oc_z29,od_z29,.func (PySem.W.fnOf "waits" "Store.waits" (defArgs s_Store_waits) (defBody s_Store_waits) (defScope s_Store_waits) .none kV_z29 dc_z29 pm_z29 an_z29 cd_z29 ct_z29),sl_z29⟩)
   (c_z29:PySem.W.codeIn K cd_z29 "Store.waits"=true)
   (k_z29:PySem.W.keepIn K (.ref f_z29)=true)
   (a_z30:PySem.W.nsIn K mainGlobals "is_whole"=some (some (.ref f_z30)))
   (l_z30:K.lookup f_z30=some ⟨oc_z30,od_z30,.func (PySem.W.fnOf "is_whole" "is_whole" (defArgs s_is_whole) (defBody s_is_whole) (defScope s_is_whole) .none kV_z30 dc_z30 pm_z30 an_z30 cd_z30 ct_z30),sl_z30⟩)
   (c_z30:PySem.W.codeIn K cd_z30 "is_whole"=true)
   (k_z30:PySem.W.keepIn K (.ref f_z30)=true)
   (a_z31:PySem.W.nsIn K mainGlobals "is_part"=some (some (.ref f_z31)))
   (l_z31:K.lookup f_z31=some ⟨oc_z31,od_z31,.func (PySem.W.fnOf "is_part" "is_part" (defArgs s_is_part) (defBody s_is_part) (defScope s_is_part) .none kV_z31 dc_z31 pm_z31 an_z31 cd_z31 ct_z31),sl_z31⟩)
   (c_z31:PySem.W.codeIn K cd_z31 "is_part"=true)
   (k_z31:PySem.W.keepIn K (.ref f_z31)=true)
   (a_z32:PySem.W.nsIn K mainGlobals "is_deed"=some (some (.ref f_z32)))
   (l_z32:K.lookup f_z32=some ⟨oc_z32,od_z32,.func (PySem.W.fnOf "is_deed" "is_deed" (defArgs s_is_deed) (defBody s_is_deed) (defScope s_is_deed) .none kV_z32 dc_z32 pm_z32 an_z32 cd_z32 ct_z32),sl_z32⟩)
   (c_z32:PySem.W.codeIn K cd_z32 "is_deed"=true)
   (k_z32:PySem.W.keepIn K (.ref f_z32)=true)
   (a_z33:PySem.W.nsIn K mainGlobals "side_of"=some (some (.ref f_z33)))
   (l_z33:K.lookup f_z33=some ⟨oc_z33,od_z33,.func (PySem.W.fnOf "side_of" "side_of" (defArgs s_side_of) (defBody s_side_of) (defScope s_side_of) .none kV_z33 dc_z33 pm_z33 an_z33 cd_z33 ct_z33),sl_z33⟩)
   (c_z33:PySem.W.codeIn K cd_z33 "side_of"=true)
   (k_z33:PySem.W.keepIn K (.ref f_z33)=true)
   (a_z34:PySem.W.findIn K (.ref C_Yard) "__init__"=some (some (.ref f_z34)))
   (i_z34:PySem.W.isFn K (.ref f_z34)=true)
   (l_z34:K.lookup f_z34=some ⟨oc_z34,od_z34,.func (PySem.W.fnOf "__init__" "Yard.__init__" (defArgs s_Yard__init) (defBody s_Yard__init) (defScope s_Yard__init) .none kV_z34 dc_z34 pm_z34 an_z34 cd_z34 ct_z34),sl_z34⟩)
   (c_z34:PySem.W.codeIn K cd_z34 "Yard.__init__"=true)
   (k_z34:PySem.W.keepIn K (.ref f_z34)=true)
   (a_z35:PySem.W.findIn K (.ref C_Yard) "deed"=some (some (.ref f_z35)))
   (i_z35:PySem.W.isFn K (.ref f_z35)=true)
   (l_z35:K.lookup f_z35=some ⟨oc_z35,od_z35,.func (PySem.W.fnOf "deed" "Yard.deed" (defArgs s_Yard_deed) (defBody s_Yard_deed) (defScope s_Yard_deed) .none kV_z35 dc_z35 pm_z35 an_z35 cd_z35 ct_z35),sl_z35⟩)
   (c_z35:PySem.W.codeIn K cd_z35 "Yard.deed"=true)
   (k_z35:PySem.W.keepIn K (.ref f_z35)=true)
   (a_z36:PySem.W.findIn K (.ref C_Yard) "story"=some (some (.ref f_z36)))
   (i_z36:PySem.W.isFn K (.ref f_z36)=true)
   (l_z36:K.lookup f_z36=some ⟨oc_z36,od_z36,.func (PySem.W.fnOf "story" "Yard.story" (defArgs s_Yard_story) (defBody s_Yard_story) (defScope s_Yard_story) .none kV_z36 dc_z36 pm_z36 an_z36 cd_z36 ct_z36),sl_z36⟩)
   (c_z36:PySem.W.codeIn K cd_z36 "Yard.story"=true)
   (k_z36:PySem.W.keepIn K (.ref f_z36)=true)
   (a_z37:PySem.W.findIn K (.ref C_Yard) "store"=some (some (.ref f_z37)))
   (i_z37:PySem.W.isFn K (.ref f_z37)=true)
   (l_z37:K.lookup f_z37=some ⟨oc_z37,od_z37,.func (PySem.W.fnOf "store" "Yard.store" (defArgs s_Yard_store) (defBody s_Yard_store) (defScope s_Yard_store) .none kV_z37 dc_z37 pm_z37 an_z37 cd_z37 ct_z37),sl_z37⟩)
   (c_z37:PySem.W.codeIn K cd_z37 "Yard.store"=true)
   (k_z37:PySem.W.keepIn K (.ref f_z37)=true)
   (a_z38:PySem.W.findIn K (.ref C_Yard) "check"=some (some (.ref f_z38)))
   (i_z38:PySem.W.isFn K (.ref f_z38)=true)
   (l_z38:K.lookup f_z38=some ⟨oc_z38,od_z38,.func (PySem.W.fnOf "check" "Yard.check" (defArgs s_Yard_check) (defBody s_Yard_check) (defScope s_Yard_check) .none kV_z38 dc_z38 pm_z38 an_z38 cd_z38 ct_z38),sl_z38⟩)
   (c_z38:PySem.W.codeIn K cd_z38 "Yard.check"=true)
   (k_z38:PySem.W.keepIn K (.ref f_z38)=true)
   (a_z39:PySem.W.findIn K (.ref C_Yard) "do_ask"=some (some (.ref f_z39)))
   (i_z39:PySem.W.isFn K (.ref f_z39)=true)
   (l_z39:K.lookup f_z39=some ⟨oc_z39,od_z39,.func (PySem.W.fnOf "do_ask" "Yard.do_ask" (defArgs s_Yard_do_ask) (defBody s_Yard_do_ask) (defScope s_Yard_do_ask) .none kV_z39 dc_z39 pm_z39 an_z39 cd_z39 ct_z39),sl_z39⟩)
   (c_z39:PySem.W.codeIn K cd_z39 "Yard.do_ask"=true)
   (k_z39:PySem.W.keepIn K (.ref f_z39)=true)
   (a_z40:PySem.W.findIn K (.ref C_Yard) "do_answer"=some (some (.ref f_z40)))
   (i_z40:PySem.W.isFn K (.ref f_z40)=true)
   (l_z40:K.lookup f_z40=some ⟨oc_z40,od_z40,.func (PySem.W.fnOf "do_answer" "Yard.do_answer" (defArgs s_Yard_do_answer) (defBody s_Yard_do_answer) (defScope s_Yard_do_answer) .none kV_z40 dc_z40 pm_z40 an_z40 cd_z40 ct_z40),sl_z40⟩)
   (c_z40:PySem.W.codeIn K cd_z40 "Yard.do_answer"=true)
   (k_z40:PySem.W.keepIn K (.ref f_z40)=true)
   (a_z41:PySem.W.findIn K (.ref C_Yard) "tell_fetched"=some (some (.ref f_z41)))
   (i_z41:PySem.W.isFn K (.ref f_z41)=true)
   (l_z41:K.lookup f_z41=some ⟨oc_z41,od_z41,.func (PySem.W.fnOf "tell_fetched" "Yard.tell_fetched" (defArgs s_Yard_tell_fetched) (defBody s_Yard_tell_fetched) (defScope s_Yard_tell_fetched) .none kV_z41 dc_z41 pm_z41 an_z41 cd_z41 ct_z41),sl_z41⟩)
   (c_z41:PySem.W.codeIn K cd_z41 "Yard.tell_fetched"=true)
   (k_z41:PySem.W.keepIn K (.ref f_z41)=true)
   (a_z42:PySem.W.findIn K (.ref C_Yard) "do_bell"=some (some (.ref f_z42)))
   (i_z42:PySem.W.isFn K (.ref f_z42)=true)
   (l_z42:K.lookup f_z42=some ⟨oc_z42,od_z42,.func (PySem.W.fnOf "do_bell" "Yard.do_bell" (defArgs s_Yard_do_bell) (defBody s_Yard_do_bell) (defScope s_Yard_do_bell) .none kV_z42 dc_z42 pm_z42 an_z42 cd_z42 ct_z42),sl_z42⟩)
   (c_z42:PySem.W.codeIn K cd_z42 "Yard.do_bell"=true)
   (k_z42:PySem.W.keepIn K (.ref f_z42)=true)
   (a_z43:PySem.W.findIn K (.ref C_Yard) "do_lie"=some (some (.ref f_z43)))
   (i_z43:PySem.W.isFn K (.ref f_z43)=true)
   (l_z43:K.lookup f_z43=some ⟨oc_z43,od_z43,.func (PySem.W.fnOf "do_lie" "Yard.do_lie" (defArgs s_Yard_do_lie) (defBody s_Yard_do_lie) (defScope s_Yard_do_lie) .none kV_z43 dc_z43 pm_z43 an_z43 cd_z43 ct_z43),sl_z43⟩)
   (c_z43:PySem.W.codeIn K cd_z43 "Yard.do_lie"=true)
   (k_z43:PySem.W.keepIn K (.ref f_z43)=true)
   (a_z44:PySem.W.findIn K (.ref C_Yard) "do_look"=some (some (.ref f_z44)))
   (i_z44:PySem.W.isFn K (.ref f_z44)=true)
   (l_z44:K.lookup f_z44=some ⟨oc_z44,od_z44,.func (PySem.W.fnOf "do_look" "Yard.do_look" (defArgs s_Yard_do_look) (defBody s_Yard_do_look) (defScope s_Yard_do_look) .none kV_z44 dc_z44 pm_z44 an_z44 cd_z44 ct_z44),sl_z44⟩)
   (c_z44:PySem.W.codeIn K cd_z44 "Yard.do_look"=true)
   (k_z44:PySem.W.keepIn K (.ref f_z44)=true)
   (a_z45:PySem.W.findIn K (.ref C_Yard) "something_waits"=some (some (.ref f_z45)))
   (i_z45:PySem.W.isFn K (.ref f_z45)=true)
   (l_z45:K.lookup f_z45=some ⟨oc_z45,od_z45,.func (PySem.W.fnOf "something_waits" "Yard.something_waits" (defArgs s_Yard_something_waits) (defBody s_Yard_something_waits) (defScope s_Yard_something_waits) .none kV_z45 dc_z45 pm_z45 an_z45 cd_z45 ct_z45),sl_z45⟩)
   (c_z45:PySem.W.codeIn K cd_z45 "Yard.something_waits"=true)
   (k_z45:PySem.W.keepIn K (.ref f_z45)=true)
   (a_z46:PySem.W.nsIn K mainGlobals "_law_cell_at"=some (some (.ref f_z46)))
   (l_z46:K.lookup f_z46=some ⟨oc_z46,od_z46,.func (PySem.W.fnOf "_law_cell_at" "_law_cell_at" (defArgs s_law_cell_at) (defBody s_law_cell_at) (defScope s_law_cell_at) .none kV_z46 dc_z46 pm_z46 an_z46 cd_z46 ct_z46),sl_z46⟩)
   (c_z46:PySem.W.codeIn K cd_z46 "_law_cell_at"=true)
   (k_z46:PySem.W.keepIn K (.ref f_z46)=true)
   (a_z47:PySem.W.nsIn K mainGlobals "_law_codes"=some (some (.ref f_z47)))
   (l_z47:K.lookup f_z47=some ⟨oc_z47,od_z47,.func (PySem.W.fnOf "_law_codes" "_law_codes" (defArgs s_law_codes) (defBody s_law_codes) (defScope s_law_codes) .none kV_z47 dc_z47 pm_z47 an_z47 cd_z47 ct_z47),sl_z47⟩)
   (c_z47:PySem.W.codeIn K cd_z47 "_law_codes"=true)
   (k_z47:PySem.W.keepIn K (.ref f_z47)=true)
   (a_z48:PySem.W.nsIn K mainGlobals "_law_make"=some (some (.ref f_z48)))
   (l_z48:K.lookup f_z48=some ⟨oc_z48,od_z48,.func (PySem.W.fnOf "_law_make" "_law_make" (defArgs s_law_make) (defBody s_law_make) (defScope s_law_make) .none kV_z48 dc_z48 pm_z48 an_z48 cd_z48 ct_z48),sl_z48⟩)
   (c_z48:PySem.W.codeIn K cd_z48 "_law_make"=true)
   (k_z48:PySem.W.keepIn K (.ref f_z48)=true)
   (a_z49:PySem.W.nsIn K mainGlobals "_law_same"=some (some (.ref f_z49)))
   (l_z49:K.lookup f_z49=some ⟨oc_z49,od_z49,.func (PySem.W.fnOf "_law_same" "_law_same" (defArgs s_law_same) (defBody s_law_same) (defScope s_law_same) .none kV_z49 dc_z49 pm_z49 an_z49 cd_z49 ct_z49),sl_z49⟩)
   (c_z49:PySem.W.codeIn K cd_z49 "_law_same"=true)
   (k_z49:PySem.W.keepIn K (.ref f_z49)=true)
   (a_z50:PySem.W.nsIn K mainGlobals "_law_worth"=some (some (.ref f_z50)))
   (l_z50:K.lookup f_z50=some ⟨oc_z50,od_z50,.func (PySem.W.fnOf "_law_worth" "_law_worth" (defArgs s_law_worth) (defBody s_law_worth) (defScope s_law_worth) .none kV_z50 dc_z50 pm_z50 an_z50 cd_z50 ct_z50),sl_z50⟩)
   (c_z50:PySem.W.codeIn K cd_z50 "_law_worth"=true)
   (k_z50:PySem.W.keepIn K (.ref f_z50)=true)
   (a_z51:PySem.W.nsIn K mainGlobals "_law_deed"=some (some (.ref f_z51)))
   (l_z51:K.lookup f_z51=some ⟨oc_z51,od_z51,.func (PySem.W.fnOf "_law_deed" "_law_deed" (defArgs s_law_deed) (defBody s_law_deed) (defScope s_law_deed) .none kV_z51 dc_z51 pm_z51 an_z51 cd_z51 ct_z51),sl_z51⟩)
   (c_z51:PySem.W.codeIn K cd_z51 "_law_deed"=true)
   (k_z51:PySem.W.keepIn K (.ref f_z51)=true)
   (a_z52:PySem.W.nsIn K mainGlobals "_law_tried"=some (some (.ref f_z52)))
   (l_z52:K.lookup f_z52=some ⟨oc_z52,od_z52,.func (PySem.W.fnOf "_law_tried" "_law_tried" (defArgs s_law_tried) (defBody s_law_tried) (defScope s_law_tried) .none kV_z52 dc_z52 pm_z52 an_z52 cd_z52 ct_z52),sl_z52⟩)
   (c_z52:PySem.W.codeIn K cd_z52 "_law_tried"=true)
   (k_z52:PySem.W.keepIn K (.ref f_z52)=true)
   (a_z53:PySem.W.nsIn K mainGlobals "_law_after"=some (some (.ref f_z53)))
   (l_z53:K.lookup f_z53=some ⟨oc_z53,od_z53,.func (PySem.W.fnOf "_law_after" "_law_after" (defArgs s_law_after) (defBody s_law_after) (defScope s_law_after) .none kV_z53 dc_z53 pm_z53 an_z53 cd_z53 ct_z53),sl_z53⟩)
   (c_z53:PySem.W.codeIn K cd_z53 "_law_after"=true)
   (k_z53:PySem.W.keepIn K (.ref f_z53)=true)
   (a_z54:PySem.W.nsIn K mainGlobals "_law_happened"=some (some (.ref f_z54)))
   (l_z54:K.lookup f_z54=some ⟨oc_z54,od_z54,.func (PySem.W.fnOf "_law_happened" "_law_happened" (defArgs s_law_happened) (defBody s_law_happened) (defScope s_law_happened) .none kV_z54 dc_z54 pm_z54 an_z54 cd_z54 ct_z54),sl_z54⟩)
   (c_z54:PySem.W.codeIn K cd_z54 "_law_happened"=true)
   (k_z54:PySem.W.keepIn K (.ref f_z54)=true)
   (a_z55:PySem.W.nsIn K mainGlobals "law"=some (some (.ref f_z55)))
   (l_z55:K.lookup f_z55=some ⟨oc_z55,od_z55,.func (PySem.W.fnOf "law" "law" (defArgs s_law) (defBody s_law) (defScope s_law) .none kV_z55 dc_z55 pm_z55 an_z55 cd_z55 ct_z55),sl_z55⟩)
   (c_z55:PySem.W.codeIn K cd_z55 "law"=true)
   (k_z55:PySem.W.keepIn K (.ref f_z55)=true)
   (pg_Ring:PySem.W.plainGet K C_Ring Str.empty=true)
   (hd_Ring:PySem.W.hasDictIn K C_Ring=true)
   (po_Ring:PySem.W.plainOver K C_Ring=true)
   (sa_Ring:PySem.W.findIn K (.ref C_Ring) "__setattr__"=some (some (.builtin "object.__setattr__")))
   (mk_Ring:PySem.W.makesIn K C_Ring=true)
   (kc_Ring:PySem.W.keepIn K (.ref C_Ring)=true)
   (na_Ring_shelf:PySem.W.findIn K (.ref C_Ring) "shelf"=some none)
   (na_Ring_side:PySem.W.findIn K (.ref C_Ring) "side"=some none)
   (na_Ring_word:PySem.W.findIn K (.ref C_Ring) "word"=some none)
   (na_Ring_laid:PySem.W.findIn K (.ref C_Ring) "laid"=some none)
   (na_Ring_fetched:PySem.W.findIn K (.ref C_Ring) "fetched"=some none)
   (na_Ring_size:PySem.W.findIn K (.ref C_Ring) "size"=some none)
   (na_Ring_rounds:PySem.W.findIn K (.ref C_Ring) "rounds"=some none)
   (na_Ring_counter_first:PySem.W.findIn K (.ref C_Ring) "counter_first"=some none)
   (pg_Hand:PySem.W.plainGet K C_Hand Str.empty=true)
   (hd_Hand:PySem.W.hasDictIn K C_Hand=true)
   (po_Hand:PySem.W.plainOver K C_Hand=true)
   (sa_Hand:PySem.W.findIn K (.ref C_Hand) "__setattr__"=some (some (.builtin "object.__setattr__")))
   (mk_Hand:PySem.W.makesIn K C_Hand=true)
   (kc_Hand:PySem.W.keepIn K (.ref C_Hand)=true)
   (na_Hand_asks:PySem.W.findIn K (.ref C_Hand) "asks"=some none)
   (na_Hand_answers:PySem.W.findIn K (.ref C_Hand) "answers"=some none)
   (na_Hand_names:PySem.W.findIn K (.ref C_Hand) "names"=some none)
   (na_Hand_going:PySem.W.findIn K (.ref C_Hand) "going"=some none)
   (pg_Heart:PySem.W.plainGet K C_Heart Str.empty=true)
   (hd_Heart:PySem.W.hasDictIn K C_Heart=true)
   (po_Heart:PySem.W.plainOver K C_Heart=true)
   (sa_Heart:PySem.W.findIn K (.ref C_Heart) "__setattr__"=some (some (.builtin "object.__setattr__")))
   (mk_Heart:PySem.W.makesIn K C_Heart=true)
   (kc_Heart:PySem.W.keepIn K (.ref C_Heart)=true)
   (na_Heart_asks:PySem.W.findIn K (.ref C_Heart) "asks"=some none)
   (na_Heart_answers:PySem.W.findIn K (.ref C_Heart) "answers"=some none)
   (na_Heart_doing:PySem.W.findIn K (.ref C_Heart) "doing"=some none)
   (pg_Store:PySem.W.plainGet K C_Store Str.empty=true)
   (hd_Store:PySem.W.hasDictIn K C_Store=true)
   (po_Store:PySem.W.plainOver K C_Store=true)
   (sa_Store:PySem.W.findIn K (.ref C_Store) "__setattr__"=some (some (.builtin "object.__setattr__")))
   (mk_Store:PySem.W.makesIn K C_Store=true)
   (kc_Store:PySem.W.keepIn K (.ref C_Store)=true)
   (na_Store_held:PySem.W.findIn K (.ref C_Store) "held"=some none)
   (na_Store_rows:PySem.W.findIn K (.ref C_Store) "rows"=some none)
   (pg_Yard:PySem.W.plainGet K C_Yard Str.empty=true)
   (hd_Yard:PySem.W.hasDictIn K C_Yard=true)
   (po_Yard:PySem.W.plainOver K C_Yard=true)
   (sa_Yard:PySem.W.findIn K (.ref C_Yard) "__setattr__"=some (some (.builtin "object.__setattr__")))
   (mk_Yard:PySem.W.makesIn K C_Yard=true)
   (kc_Yard:PySem.W.keepIn K (.ref C_Yard)=true)
   (na_Yard_size:PySem.W.findIn K (.ref C_Yard) "size"=some none)
   (na_Yard_rounds:PySem.W.findIn K (.ref C_Yard) "rounds"=some none)
   (na_Yard_faults:PySem.W.findIn K (.ref C_Yard) "faults"=some none)
   (na_Yard_shelf:PySem.W.findIn K (.ref C_Yard) "shelf"=some none)
   (na_Yard_hand:PySem.W.findIn K (.ref C_Yard) "hand"=some none)
   (na_Yard_heart:PySem.W.findIn K (.ref C_Yard) "heart"=some none)
   (na_Yard_bell_fences:PySem.W.findIn K (.ref C_Yard) "bell_fences"=some none)
   (na_Yard_lie_fences:PySem.W.findIn K (.ref C_Yard) "lie_fences"=some none)
   (na_Yard_look_sees:PySem.W.findIn K (.ref C_Yard) "look_sees"=some none)
   (na_Yard_sleepers:PySem.W.findIn K (.ref C_Yard) "sleepers"=some none)
   (na_Yard_quiet:PySem.W.findIn K (.ref C_Yard) "quiet"=some none)
   (na_Yard_happened:PySem.W.findIn K (.ref C_Yard) "happened"=some none)
   (n_all:PySem.W.nsIn K mainGlobals "all"=some none)
   (n_bool:PySem.W.nsIn K mainGlobals "bool"=some none)
   (n_int:PySem.W.nsIn K mainGlobals "int"=some none)
   (n_isinstance:PySem.W.nsIn K mainGlobals "isinstance"=some none)
   (n_len:PySem.W.nsIn K mainGlobals "len"=some none)
   (n_list:PySem.W.nsIn K mainGlobals "list"=some none)
   (n_range:PySem.W.nsIn K mainGlobals "range"=some none)
   (n_reversed:PySem.W.nsIn K mainGlobals "reversed"=some none)
   (n_sorted:PySem.W.nsIn K mainGlobals "sorted"=some none)
   (n_str:PySem.W.nsIn K mainGlobals "str"=some none)
   (n_tuple:PySem.W.nsIn K mainGlobals "tuple"=some none)
   (n_zip:PySem.W.nsIn K mainGlobals "zip"=some none)
   (aX_RingError:PySem.W.nsIn K mainGlobals "RingError"=some (some (.ref C_RingError)))
   (aX_Full:PySem.W.nsIn K mainGlobals "Full"=some (some (.ref C_Full)))
   (aX_NoName:PySem.W.nsIn K mainGlobals "NoName"=some (some (.ref C_NoName)))
   (aX_NoTask:PySem.W.nsIn K mainGlobals "NoTask"=some (some (.ref C_NoTask)))
   (aX_NoDeed:PySem.W.nsIn K mainGlobals "NoDeed"=some (some (.ref C_NoDeed)))
   (aT_ASKS:PySem.W.nsIn K mainGlobals "ASKS"=some (some (.ref T_ASKS)))
   (kT_ASKS:K.lookup T_ASKS=some ⟨.type "tuple",tod_ASKS,.seq #[.str "ask" tt0_ASKS,.str "asked" tt1_ASKS,.str "taken" tt2_ASKS] tn_ASKS,tsl_ASKS⟩)
   (aT_ANSWERS:PySem.W.nsIn K mainGlobals "ANSWERS"=some (some (.ref T_ANSWERS)))
   (kT_ANSWERS:K.lookup T_ANSWERS=some ⟨.type "tuple",tod_ANSWERS,.seq #[.str "answer" tt0_ANSWERS,.str "answered" tt1_ANSWERS,.str "handed" tt2_ANSWERS] tn_ANSWERS,tsl_ANSWERS⟩)
   (aT_SLEEP_CELLS:PySem.W.nsIn K mainGlobals "SLEEP_CELLS"=some (some (.ref T_SLEEP_CELLS)))
   (kT_SLEEP_CELLS:K.lookup T_SLEEP_CELLS=some ⟨.type "tuple",tod_SLEEP_CELLS,.seq #[.str "hand sleeps" tt0_SLEEP_CELLS,.str "heart sleeps" tt1_SLEEP_CELLS] tn_SLEEP_CELLS,tsl_SLEEP_CELLS⟩)
   (aI_MOST_WORTH:PySem.W.nsIn K mainGlobals "MOST_WORTH"=some (some (.int 1000000000 ti_MOST_WORTH)))
   (aT_FORMS:PySem.W.nsIn K mainGlobals "FORMS"=some (some (.ref T_FORMS)))
   (kT_FORMS:K.lookup T_FORMS=some ⟨.type "dict",none,.dict #[⟨th0_FORMS,.str "ask" tk0_FORMS,.ref V_FORMS_0⟩,⟨th1_FORMS,.str "collect" tk1_FORMS,.ref V_FORMS_1⟩,⟨th2_FORMS,.str "take" tk2_FORMS,.ref V_FORMS_2⟩,⟨th3_FORMS,.str "answer" tk3_FORMS,.ref V_FORMS_3⟩,⟨th4_FORMS,.str "bell" tk4_FORMS,.ref V_FORMS_4⟩,⟨th5_FORMS,.str "lie" tk5_FORMS,.ref V_FORMS_5⟩,⟨th6_FORMS,.str "look" tk6_FORMS,.ref V_FORMS_6⟩,⟨th7_FORMS,.str "drain" tk7_FORMS,.ref V_FORMS_7⟩] tep_FORMS,#[]⟩)
   (kN_FORMS:(T_FORMS == sysModules)=false)
   (kV0_FORMS:K.lookup V_FORMS_0=some ⟨.type "tuple",vod0_FORMS,.seq #[.str "worth" vt0_0_FORMS] vn0_FORMS,vsl0_FORMS⟩)
   (kV1_FORMS:K.lookup V_FORMS_1=some ⟨.type "tuple",vod1_FORMS,.seq #[] vn1_FORMS,vsl1_FORMS⟩)
   (kV2_FORMS:K.lookup V_FORMS_2=some ⟨.type "tuple",vod2_FORMS,.seq #[] vn2_FORMS,vsl2_FORMS⟩)
   (kV3_FORMS:K.lookup V_FORMS_3=some ⟨.type "tuple",vod3_FORMS,.seq #[.str "name" vt3_0_FORMS,.str "worth" vt3_1_FORMS] vn3_FORMS,vsl3_FORMS⟩)
   (kV4_FORMS:K.lookup V_FORMS_4=some ⟨.type "tuple",vod4_FORMS,.seq #[.str "side" vt4_0_FORMS] vn4_FORMS,vsl4_FORMS⟩)
   (kV5_FORMS:K.lookup V_FORMS_5=some ⟨.type "tuple",vod5_FORMS,.seq #[.str "side" vt5_0_FORMS] vn5_FORMS,vsl5_FORMS⟩)
   (kV6_FORMS:K.lookup V_FORMS_6=some ⟨.type "tuple",vod6_FORMS,.seq #[.str "side" vt6_0_FORMS] vn6_FORMS,vsl6_FORMS⟩)
   (kV7_FORMS:K.lookup V_FORMS_7=some ⟨.type "tuple",vod7_FORMS,.seq #[.str "side" vt7_0_FORMS] vn7_FORMS,vsl7_FORMS⟩)
   (xc_Full:PySem.W.excIn K C_Full veB "ValueError.__new__"=true)
   (xc_NoName:PySem.W.excIn K C_NoName veB "ValueError.__new__"=true)
   (xc_NoTask:PySem.W.excIn K C_NoTask veB "ValueError.__new__"=true)
   (xc_NoDeed:PySem.W.excIn K C_NoDeed veB "ValueError.__new__"=true)
   (mo_em_dd:PySem.W.exmOne K (.ref C_NoDeed) (.ref C_NoDeed)=some true)
   (mo_em_df:PySem.W.exmOne K (.ref C_NoDeed) (.ref C_Full)=some false)
   (mo_em_dn:PySem.W.exmOne K (.ref C_NoDeed) (.ref C_NoName)=some false)
   (mo_em_dt:PySem.W.exmOne K (.ref C_NoDeed) (.ref C_NoTask)=some false)
   (mo_em_fd:PySem.W.exmOne K (.ref C_Full) (.ref C_NoDeed)=some false)
   (mo_em_ff:PySem.W.exmOne K (.ref C_Full) (.ref C_Full)=some true)
   (mo_em_fn:PySem.W.exmOne K (.ref C_Full) (.ref C_NoName)=some false)
   (mo_em_ft:PySem.W.exmOne K (.ref C_Full) (.ref C_NoTask)=some false)
   (mo_em_nd:PySem.W.exmOne K (.ref C_NoName) (.ref C_NoDeed)=some false)
   (mo_em_nf:PySem.W.exmOne K (.ref C_NoName) (.ref C_Full)=some false)
   (mo_em_nn:PySem.W.exmOne K (.ref C_NoName) (.ref C_NoName)=some true)
   (mo_em_nt:PySem.W.exmOne K (.ref C_NoName) (.ref C_NoTask)=some false)
   (mo_em_td:PySem.W.exmOne K (.ref C_NoTask) (.ref C_NoDeed)=some false)
   (mo_em_tf:PySem.W.exmOne K (.ref C_NoTask) (.ref C_Full)=some false)
   (mo_em_tn:PySem.W.exmOne K (.ref C_NoTask) (.ref C_NoName)=some false)
   (mo_em_tt:PySem.W.exmOne K (.ref C_NoTask) (.ref C_NoTask)=some true) :
   ∃ fd:FuncData,(∀ (s:Shared) (v:Value),BindsTo s fd ⟨[v],[]⟩ [("script",v)])/\∀ base:Heap,K.In base->base.Ns mainGlobals mg->FnOk l.prog w K mg base CX0 17 fa fd ["script"] (sp_law K):=by
 have e:=hfa.symm.trans (PySem.W.mg_of X G a_z55)
 cases e
 have F_z0:=fun_mk (st:=s_next_counter) l_z0 c_z0 k_z0
 have B_z0:=F_z0.binds (ps:=["counter","size","rounds"]) λ_ _ _ _ _ _ us hl=>match us,hl with | [_,_,_],_=>rfl
 have F_z1:=fun_mk (st:=s_place_of) l_z1 c_z1 k_z1
 have B_z1:=F_z1.binds (ps:=["counter","size"]) λ_ _ _ _ _ _ us hl=>match us,hl with | [_,_],_=>rfl
 have F_z2:=fun_mk (st:=s_ahead_by) l_z2 c_z2 k_z2
 have B_z2:=F_z2.binds (ps:=["one","other","size","rounds"]) λ_ _ _ _ _ _ us hl=>match us,hl with | [_,_,_,_],_=>rfl
 have F_z3:=fun_mk (st:=s_rounds_with) l_z3 c_z3 k_z3
 have B_z3:=F_z3.binds (ps:=["rounds","faults"]) λ_ _ _ _ _ _ us hl=>match us,hl with | [_,_],_=>rfl
 have F_z4:=fun_mk (st:=s_Ring__init) l_z4 c_z4 k_z4
 have B_z4:=F_z4.binds (ps:=["self","store","side","words","size","rounds","faults"]) λ_ _ _ _ _ _ us hl=>match us,hl with | [_,_,_,_,_,_,_],_=>rfl
 have F_z5:=fun_mk (st:=s_Ring_filled) l_z5 c_z5 k_z5
 have B_z5:=F_z5.binds (ps:=["self"]) λ_ _ _ _ _ _ us hl=>match us,hl with | [_],_=>rfl
 have F_z6:=fun_mk (st:=s_Ring_is_full) l_z6 c_z6 k_z6
 have B_z6:=F_z6.binds (ps:=["self"]) λ_ _ _ _ _ _ us hl=>match us,hl with | [_],_=>rfl
 have F_z7:=fun_mk (st:=s_Ring_place_at) l_z7 c_z7 k_z7
 have B_z7:=F_z7.binds (ps:=["self","counter"]) λ_ _ _ _ _ _ us hl=>match us,hl with | [_,_],_=>rfl
 have F_z8:=fun_mk (st:=s_Ring_write_further) l_z8 c_z8 k_z8
 have B_z8:=F_z8.binds (ps:=["self","cell","counter"]) λ_ _ _ _ _ _ us hl=>match us,hl with | [_,_,_],_=>rfl
 have F_z9:=fun_mk (st:=s_Ring_lay) l_z9 c_z9 k_z9
 have B_z9:=F_z9.binds (ps:=["self","name","worth"]) λ_ _ _ _ _ _ us hl=>match us,hl with | [_,_,_],_=>rfl
 have F_z10:=fun_mk (st:=s_Ring_fetch) l_z10 c_z10 k_z10
 have B_z10:=F_z10.binds (ps:=["self"]) λ_ _ _ _ _ _ us hl=>match us,hl with | [_],_=>rfl
 have F_z11:=fun_mk (st:=s_Hand__init) l_z11 c_z11 k_z11
 have B_z11:=F_z11.binds (ps:=["self","store","size","rounds","names","faults"]) λ_ _ _ _ _ _ us hl=>match us,hl with | [_,_,_,_,_,_],_=>rfl
 have F_z12:=fun_mk (st:=s_Hand_least_free) l_z12 c_z12 k_z12
 have B_z12:=F_z12.binds (ps:=["self"]) λ_ _ _ _ _ _ us hl=>match us,hl with | [_],_=>rfl
 have F_z13:=fun_mk (st:=s_Hand_check_ask) l_z13 c_z13 k_z13
 have B_z13:=F_z13.binds (ps:=["self"]) λ_ _ _ _ _ _ us hl=>match us,hl with | [_],_=>rfl
 have F_z14:=fun_mk (st:=s_Hand_ask) l_z14 c_z14 k_z14
 have B_z14:=F_z14.binds (ps:=["self","worth"]) λ_ _ _ _ _ _ us hl=>match us,hl with | [_,_],_=>rfl
 have F_z15:=fun_mk (st:=s_Hand_collect) l_z15 c_z15 k_z15
 have B_z15:=F_z15.binds (ps:=["self"]) λ_ _ _ _ _ _ us hl=>match us,hl with | [_],_=>rfl
 have F_z16:=fun_mk (st:=s_Hand_something_waits) l_z16 c_z16 k_z16
 have B_z16:=F_z16.binds (ps:=["self"]) λ_ _ _ _ _ _ us hl=>match us,hl with | [_],_=>rfl
 have F_z17:=fun_mk (st:=s_Heart__init) l_z17 c_z17 k_z17
 have B_z17:=F_z17.binds (ps:=["self","store","size","rounds","faults"]) λ_ _ _ _ _ _ us hl=>match us,hl with | [_,_,_,_,_],_=>rfl
 have F_z18:=fun_mk (st:=s_Heart_take) l_z18 c_z18 k_z18
 have B_z18:=F_z18.binds (ps:=["self"]) λ_ _ _ _ _ _ us hl=>match us,hl with | [_],_=>rfl
 have F_z19:=fun_mk (st:=s_Heart_check_answer) l_z19 c_z19 k_z19
 have B_z19:=F_z19.binds (ps:=["self","name"]) λ_ _ _ _ _ _ us hl=>match us,hl with | [_,_],_=>rfl
 have F_z20:=fun_mk (st:=s_Heart_answer) l_z20 c_z20 k_z20
 have B_z20:=F_z20.binds (ps:=["self","name","worth"]) λ_ _ _ _ _ _ us hl=>match us,hl with | [_,_,_],_=>rfl
 have F_z21:=fun_mk (st:=s_Heart_tasks) l_z21 c_z21 k_z21
 have B_z21:=F_z21.binds (ps:=["self"]) λ_ _ _ _ _ _ us hl=>match us,hl with | [_],_=>rfl
 have F_z22:=fun_mk (st:=s_Heart_something_waits) l_z22 c_z22 k_z22
 have B_z22:=F_z22.binds (ps:=["self"]) λ_ _ _ _ _ _ us hl=>match us,hl with | [_],_=>rfl
 have F_z23:=fun_mk (st:=s_Store__init) l_z23 c_z23 k_z23
 have B_z23:=F_z23.binds (ps:=["self"]) λ_ _ _ _ _ _ us hl=>match us,hl with | [_],_=>rfl
 have F_z24:=fun_mk (st:=s_Store_write) l_z24 c_z24 k_z24
 have B_z24:=F_z24.binds (ps:=["self","side","cell","worth"]) λ_ _ _ _ _ _ us hl=>match us,hl with | [_,_,_,_],_=>rfl
 have F_z25:=fun_mk (st:=s_Store_drain) l_z25 c_z25 k_z25
 have B_z25:=F_z25.binds (ps:=["self","side"]) λ_ _ _ _ _ _ us hl=>match us,hl with | [_,_],_=>rfl
 have F_z26:=fun_mk (st:=s_Store_fence) l_z26 c_z26 k_z26
 have B_z26:=F_z26.binds (ps:=["self","side"]) λ_ _ _ _ _ _ us hl=>match us,hl with | [_,_],_=>rfl
 have F_z27:=fun_mk (st:=s_Store_read) l_z27 c_z27 k_z27
 have B_z27:=F_z27.binds (ps:=["self","side","cell"]) λ_ _ _ _ _ _ us hl=>match us,hl with | [_,_,_],_=>rfl
 have F_z28:=fun_mk (st:=s_Store_memory) l_z28 c_z28 k_z28
 have B_z28:=F_z28.binds (ps:=["self","cell"]) λ_ _ _ _ _ _ us hl=>match us,hl with | [_,_],_=>rfl
 have F_z29:=fun_mk (st:=s_Store_waits) l_z29 c_z29 k_z29
 have B_z29:=F_z29.binds (ps:=["self","side"]) λ_ _ _ _ _ _ us hl=>match us,hl with | [_,_],_=>rfl
 have F_z30:=fun_mk (st:=s_is_whole) l_z30 c_z30 k_z30
 have B_z30:=F_z30.binds (ps:=["value"]) λ_ _ _ _ _ _ us hl=>match us,hl with | [_],_=>rfl
 have F_z31:=fun_mk (st:=s_is_part) l_z31 c_z31 k_z31
 have B_z31:=F_z31.binds (ps:=["value","kind"]) λ_ _ _ _ _ _ us hl=>match us,hl with | [_,_],_=>rfl
 have F_z32:=fun_mk (st:=s_is_deed) l_z32 c_z32 k_z32
 have B_z32:=F_z32.binds (ps:=["some"]) λ_ _ _ _ _ _ us hl=>match us,hl with | [_],_=>rfl
 have F_z33:=fun_mk (st:=s_side_of) l_z33 c_z33 k_z33
 have B_z33:=F_z33.binds (ps:=["some"]) λ_ _ _ _ _ _ us hl=>match us,hl with | [_],_=>rfl
 have F_z34:=fun_mk (st:=s_Yard__init) l_z34 c_z34 k_z34
 have B_z34:=F_z34.binds (ps:=["self","size","rounds","names","faults"]) λ_ _ _ _ _ _ us hl=>match us,hl with | [_,_,_,_,_],_=>rfl
 have F_z35:=fun_mk (st:=s_Yard_deed) l_z35 c_z35 k_z35
 have B_z35:=F_z35.binds (ps:=["self","some"]) λ_ _ _ _ _ _ us hl=>match us,hl with | [_,_],_=>rfl
 have F_z36:=fun_mk (st:=s_Yard_story) l_z36 c_z36 k_z36
 have B_z36:=F_z36.binds (ps:=["self"]) λ_ _ _ _ _ _ us hl=>match us,hl with | [_],_=>rfl
 have F_z37:=fun_mk (st:=s_Yard_store) l_z37 c_z37 k_z37
 have B_z37:=F_z37.binds (ps:=["self"]) λ_ _ _ _ _ _ us hl=>match us,hl with | [_],_=>rfl
 have F_z38:=fun_mk (st:=s_Yard_check) l_z38 c_z38 k_z38
 have B_z38:=F_z38.binds (ps:=["self","some"]) λ_ _ _ _ _ _ us hl=>match us,hl with | [_,_],_=>rfl
 have F_z39:=fun_mk (st:=s_Yard_do_ask) l_z39 c_z39 k_z39
 have B_z39:=F_z39.binds (ps:=["self","worth"]) λ_ _ _ _ _ _ us hl=>match us,hl with | [_,_],_=>rfl
 have F_z40:=fun_mk (st:=s_Yard_do_answer) l_z40 c_z40 k_z40
 have B_z40:=F_z40.binds (ps:=["self","name","worth"]) λ_ _ _ _ _ _ us hl=>match us,hl with | [_,_,_],_=>rfl
 have F_z41:=fun_mk (st:=s_Yard_tell_fetched) l_z41 c_z41 k_z41
 have B_z41:=F_z41.binds (ps:=["self","word","told"]) λ_ _ _ _ _ _ us hl=>match us,hl with | [_,_,_],_=>rfl
 have F_z42:=fun_mk (st:=s_Yard_do_bell) l_z42 c_z42 k_z42
 have B_z42:=F_z42.binds (ps:=["self","side"]) λ_ _ _ _ _ _ us hl=>match us,hl with | [_,_],_=>rfl
 have F_z43:=fun_mk (st:=s_Yard_do_lie) l_z43 c_z43 k_z43
 have B_z43:=F_z43.binds (ps:=["self","side"]) λ_ _ _ _ _ _ us hl=>match us,hl with | [_,_],_=>rfl
 have F_z44:=fun_mk (st:=s_Yard_do_look) l_z44 c_z44 k_z44
 have B_z44:=F_z44.binds (ps:=["self","side"]) λ_ _ _ _ _ _ us hl=>match us,hl with | [_,_],_=>rfl
 have F_z45:=fun_mk (st:=s_Yard_something_waits) l_z45 c_z45 k_z45
 have B_z45:=F_z45.binds (ps:=["self","side"]) λ_ _ _ _ _ _ us hl=>match us,hl with | [_,_],_=>rfl
 have F_z46:=fun_mk (st:=s_law_cell_at) l_z46 c_z46 k_z46
 have B_z46:=F_z46.binds (ps:=["script","k"]) λ_ _ _ _ _ _ us hl=>match us,hl with | [_,_],_=>rfl
 have F_z47:=fun_mk (st:=s_law_codes) l_z47 c_z47 k_z47
 have B_z47:=F_z47.binds (ps:=["cells","most"]) λ_ _ _ _ _ _ us hl=>match us,hl with | [_,_],_=>rfl
 have F_z48:=fun_mk (st:=s_law_make) l_z48 c_z48 k_z48
 have B_z48:=F_z48.binds (ps:=["cell"]) λ_ _ _ _ _ _ us hl=>match us,hl with | [_],_=>rfl
 have F_z49:=fun_mk (st:=s_law_same) l_z49 c_z49 k_z49
 have B_z49:=F_z49.binds (ps:=["found","due"]) λ_ _ _ _ _ _ us hl=>match us,hl with | [_,_],_=>rfl
 have F_z50:=fun_mk (st:=s_law_worth) l_z50 c_z50 k_z50
 have B_z50:=F_z50.binds (ps:=["code"]) λ_ _ _ _ _ _ us hl=>match us,hl with | [_],_=>rfl
 have F_z51:=fun_mk (st:=s_law_deed) l_z51 c_z51 k_z51
 have B_z51:=F_z51.binds (ps:=["code","tasks"]) λ_ _ _ _ _ _ us hl=>match us,hl with | [_,_],_=>rfl
 have F_z52:=fun_mk (st:=s_law_tried) l_z52 c_z52 k_z52
 have B_z52:=F_z52.binds (ps:=["yard","deed"]) λ_ _ _ _ _ _ us hl=>match us,hl with | [_,_],_=>rfl
 have F_z53:=fun_mk (st:=s_law_after) l_z53 c_z53 k_z53
 have B_z53:=F_z53.binds (ps:=["tasks","deed","told"]) λ_ _ _ _ _ _ us hl=>match us,hl with | [_,_,_],_=>rfl
 have F_z54:=fun_mk (st:=s_law_happened) l_z54 c_z54 k_z54
 have B_z54:=F_z54.binds (ps:=["deed","told"]) λ_ _ _ _ _ _ us hl=>match us,hl with | [_,_],_=>rfl
 have F_z55:=fun_mk (st:=s_law) l_z55 c_z55 k_z55
 have B_z55:=F_z55.binds (ps:=["script"]) λ_ _ _ _ _ _ us hl=>match us,hl with | [_],_=>rfl
 let ad:Ad:=⟨f_z0,f_z1,f_z2,f_z3,f_z4,f_z5,f_z6,f_z7,f_z8,f_z9,f_z10,f_z11,f_z12,f_z13,f_z14,f_z15,f_z16,f_z17,f_z18,f_z19,f_z20,f_z21,f_z22,f_z23,f_z24,f_z25,f_z26,f_z27,f_z28,f_z29,f_z30,f_z31,f_z32,f_z33,f_z34,f_z35,f_z36,f_z37,f_z38,f_z39,f_z40,f_z41,f_z42,f_z43,f_z44,f_z45,f_z46,f_z47,f_z48,f_z49,f_z50,f_z51,f_z52,f_z53,f_z54,fa,C_Ring,C_Hand,C_Heart,C_Store,C_Yard,C_RingError,C_Full,C_NoName,C_NoTask,C_NoDeed,T_ASKS,T_ANSWERS,T_SLEEP_CELLS,T_FORMS,V_FORMS_0,V_FORMS_1,V_FORMS_2,V_FORMS_3,V_FORMS_4,V_FORMS_5,V_FORMS_6,V_FORMS_7⟩
 let dd:Fd:=⟨PySem.W.fnOf "next_counter" "next_counter" (defArgs s_next_counter) (defBody s_next_counter) (defScope s_next_counter) .none kV_z0 dc_z0 pm_z0 an_z0 cd_z0 ct_z0,PySem.W.fnOf "place_of" "place_of" (defArgs s_place_of) (defBody s_place_of) (defScope s_place_of) .none kV_z1 dc_z1 pm_z1 an_z1 cd_z1 ct_z1,PySem.W.fnOf "ahead_by" "ahead_by" (defArgs s_ahead_by) (defBody s_ahead_by) (defScope s_ahead_by) .none kV_z2 dc_z2 pm_z2 an_z2 cd_z2 ct_z2,PySem.W.fnOf "rounds_with" "rounds_with" (defArgs s_rounds_with) (defBody s_rounds_with) (defScope s_rounds_with) .none kV_z3 dc_z3 pm_z3 an_z3 cd_z3 ct_z3,PySem.W.fnOf "__init__" "Ring.__init__" (defArgs s_Ring__init) (defBody s_Ring__init) (defScope s_Ring__init) .none kV_z4 dc_z4 pm_z4 an_z4 cd_z4 ct_z4,PySem.W.fnOf "filled" "Ring.filled" (defArgs s_Ring_filled) (defBody s_Ring_filled) (defScope s_Ring_filled) .none kV_z5 dc_z5 pm_z5 an_z5 cd_z5 ct_z5,PySem.W.fnOf "is_full" "Ring.is_full" (defArgs s_Ring_is_full) (defBody s_Ring_is_full) (defScope s_Ring_is_full) .none kV_z6 dc_z6 pm_z6 an_z6 cd_z6 ct_z6,PySem.W.fnOf "place_at" "Ring.place_at" (defArgs s_Ring_place_at) (defBody s_Ring_place_at) (defScope s_Ring_place_at) .none kV_z7 dc_z7 pm_z7 an_z7 cd_z7 ct_z7,PySem.W.fnOf "write_further" "Ring.write_further" (defArgs s_Ring_write_further) (defBody s_Ring_write_further) (defScope s_Ring_write_further) .none kV_z8 dc_z8 pm_z8 an_z8 cd_z8 ct_z8,PySem.W.fnOf "lay" "Ring.lay" (defArgs s_Ring_lay) (defBody s_Ring_lay) (defScope s_Ring_lay) .none kV_z9 dc_z9 pm_z9 an_z9 cd_z9 ct_z9,PySem.W.fnOf "fetch" "Ring.fetch" (defArgs s_Ring_fetch) (defBody s_Ring_fetch) (defScope s_Ring_fetch) .none kV_z10 dc_z10 pm_z10 an_z10 cd_z10 ct_z10,PySem.W.fnOf "__init__" "Hand.__init__" (defArgs s_Hand__init) (defBody s_Hand__init) (defScope s_Hand__init) .none kV_z11 dc_z11 pm_z11 an_z11 cd_z11 ct_z11,PySem.W.fnOf "least_free" "Hand.least_free" (defArgs s_Hand_least_free) (defBody s_Hand_least_free) (defScope s_Hand_least_free) .none kV_z12 dc_z12 pm_z12 an_z12 cd_z12 ct_z12,PySem.W.fnOf "check_ask" "Hand.check_ask" (defArgs s_Hand_check_ask) (defBody s_Hand_check_ask) (defScope s_Hand_check_ask) .none kV_z13 dc_z13 pm_z13 an_z13 cd_z13 ct_z13,PySem.W.fnOf "ask" "Hand.ask" (defArgs s_Hand_ask) (defBody s_Hand_ask) (defScope s_Hand_ask) .none kV_z14 dc_z14 pm_z14 an_z14 cd_z14 ct_z14,PySem.W.fnOf "collect" "Hand.collect" (defArgs s_Hand_collect) (defBody s_Hand_collect) (defScope s_Hand_collect) .none kV_z15 dc_z15 pm_z15 an_z15 cd_z15 ct_z15,PySem.W.fnOf "something_waits" "Hand.something_waits" (defArgs s_Hand_something_waits) (defBody s_Hand_something_waits) (defScope s_Hand_something_waits) .none kV_z16 dc_z16 pm_z16 an_z16 cd_z16 ct_z16,PySem.W.fnOf "__init__" "Heart.__init__" (defArgs s_Heart__init) (defBody s_Heart__init) (defScope s_Heart__init) .none kV_z17 dc_z17 pm_z17 an_z17 cd_z17 ct_z17,PySem.W.fnOf "take" "Heart.take" (defArgs s_Heart_take) (defBody s_Heart_take) (defScope s_Heart_take) .none kV_z18 dc_z18 pm_z18 an_z18 cd_z18 ct_z18,PySem.W.fnOf "check_answer" "Heart.check_answer" (defArgs s_Heart_check_answer) (defBody s_Heart_check_answer) (defScope s_Heart_check_answer) .none kV_z19 dc_z19 pm_z19 an_z19 cd_z19 ct_z19,PySem.W.fnOf "answer" "Heart.answer" (defArgs s_Heart_answer) (defBody s_Heart_answer) (defScope s_Heart_answer) .none kV_z20 dc_z20 pm_z20 an_z20 cd_z20 ct_z20,PySem.W.fnOf "tasks" "Heart.tasks" (defArgs s_Heart_tasks) (defBody s_Heart_tasks) (defScope s_Heart_tasks) .none kV_z21 dc_z21 pm_z21 an_z21 cd_z21 ct_z21,PySem.W.fnOf "something_waits" "Heart.something_waits" (defArgs s_Heart_something_waits) (defBody s_Heart_something_waits) (defScope s_Heart_something_waits) .none kV_z22 dc_z22 pm_z22 an_z22 cd_z22 ct_z22,PySem.W.fnOf "__init__" "Store.__init__" (defArgs s_Store__init) (defBody s_Store__init) (defScope s_Store__init) .none kV_z23 dc_z23 pm_z23 an_z23 cd_z23 ct_z23,PySem.W.fnOf "write" "Store.write" (defArgs s_Store_write) (defBody s_Store_write) (defScope s_Store_write) .none kV_z24 dc_z24 pm_z24 an_z24 cd_z24 ct_z24,PySem.W.fnOf "drain" "Store.drain" (defArgs s_Store_drain) (defBody s_Store_drain) (defScope s_Store_drain) .none kV_z25 dc_z25 pm_z25 an_z25 cd_z25 ct_z25,PySem.W.fnOf "fence" "Store.fence" (defArgs s_Store_fence) (defBody s_Store_fence) (defScope s_Store_fence) .none kV_z26 dc_z26 pm_z26 an_z26 cd_z26 ct_z26,PySem.W.fnOf "read" "Store.read" (defArgs s_Store_read) (defBody s_Store_read) (defScope s_Store_read) .none kV_z27 dc_z27 pm_z27 an_z27 cd_z27 ct_z27,PySem.W.fnOf "memory" "Store.memory" (defArgs s_Store_memory) (defBody s_Store_memory) (defScope s_Store_memory) .none kV_z28 dc_z28 pm_z28 an_z28 cd_z28 ct_z28,PySem.W.fnOf "waits" "Store.waits" (defArgs s_Store_waits) (defBody s_Store_waits) (defScope s_Store_waits) .none kV_z29 dc_z29 pm_z29 an_z29 cd_z29 ct_z29,PySem.W.fnOf "is_whole" "is_whole" (defArgs s_is_whole) (defBody s_is_whole) (defScope s_is_whole) .none kV_z30 dc_z30 pm_z30 an_z30 cd_z30 ct_z30,PySem.W.fnOf "is_part" "is_part" (defArgs s_is_part) (defBody s_is_part) (defScope s_is_part) .none kV_z31 dc_z31 pm_z31 an_z31 cd_z31 ct_z31,PySem.W.fnOf "is_deed" "is_deed" (defArgs s_is_deed) (defBody s_is_deed) (defScope s_is_deed) .none kV_z32 dc_z32 pm_z32 an_z32 cd_z32 ct_z32,PySem.W.fnOf "side_of" "side_of" (defArgs s_side_of) (defBody s_side_of) (defScope s_side_of) .none kV_z33 dc_z33 pm_z33 an_z33 cd_z33 ct_z33,PySem.W.fnOf "__init__" "Yard.__init__" (defArgs s_Yard__init) (defBody s_Yard__init) (defScope s_Yard__init) .none kV_z34 dc_z34 pm_z34 an_z34 cd_z34 ct_z34,PySem.W.fnOf "deed" "Yard.deed" (defArgs s_Yard_deed) (defBody s_Yard_deed) (defScope s_Yard_deed) .none kV_z35 dc_z35 pm_z35 an_z35 cd_z35 ct_z35,PySem.W.fnOf "story" "Yard.story" (defArgs s_Yard_story) (defBody s_Yard_story) (defScope s_Yard_story) .none kV_z36 dc_z36 pm_z36 an_z36 cd_z36 ct_z36,PySem.W.fnOf "store" "Yard.store" (defArgs s_Yard_store) (defBody s_Yard_store) (defScope s_Yard_store) .none kV_z37 dc_z37 pm_z37 an_z37 cd_z37 ct_z37,PySem.W.fnOf "check" "Yard.check" (defArgs s_Yard_check) (defBody s_Yard_check) (defScope s_Yard_check) .none kV_z38 dc_z38 pm_z38 an_z38 cd_z38 ct_z38,PySem.W.fnOf "do_ask" "Yard.do_ask" (defArgs s_Yard_do_ask) (defBody s_Yard_do_ask) (defScope s_Yard_do_ask) .none kV_z39 dc_z39 pm_z39 an_z39 cd_z39 ct_z39,PySem.W.fnOf "do_answer" "Yard.do_answer" (defArgs s_Yard_do_answer) (defBody s_Yard_do_answer) (defScope s_Yard_do_answer) .none kV_z40 dc_z40 pm_z40 an_z40 cd_z40 ct_z40,PySem.W.fnOf "tell_fetched" "Yard.tell_fetched" (defArgs s_Yard_tell_fetched) (defBody s_Yard_tell_fetched) (defScope s_Yard_tell_fetched) .none kV_z41 dc_z41 pm_z41 an_z41 cd_z41 ct_z41,PySem.W.fnOf "do_bell" "Yard.do_bell" (defArgs s_Yard_do_bell) (defBody s_Yard_do_bell) (defScope s_Yard_do_bell) .none kV_z42 dc_z42 pm_z42 an_z42 cd_z42 ct_z42,PySem.W.fnOf "do_lie" "Yard.do_lie" (defArgs s_Yard_do_lie) (defBody s_Yard_do_lie) (defScope s_Yard_do_lie) .none kV_z43 dc_z43 pm_z43 an_z43 cd_z43 ct_z43,PySem.W.fnOf "do_look" "Yard.do_look" (defArgs s_Yard_do_look) (defBody s_Yard_do_look) (defScope s_Yard_do_look) .none kV_z44 dc_z44 pm_z44 an_z44 cd_z44 ct_z44,PySem.W.fnOf "something_waits" "Yard.something_waits" (defArgs s_Yard_something_waits) (defBody s_Yard_something_waits) (defScope s_Yard_something_waits) .none kV_z45 dc_z45 pm_z45 an_z45 cd_z45 ct_z45,PySem.W.fnOf "_law_cell_at" "_law_cell_at" (defArgs s_law_cell_at) (defBody s_law_cell_at) (defScope s_law_cell_at) .none kV_z46 dc_z46 pm_z46 an_z46 cd_z46 ct_z46,PySem.W.fnOf "_law_codes" "_law_codes" (defArgs s_law_codes) (defBody s_law_codes) (defScope s_law_codes) .none kV_z47 dc_z47 pm_z47 an_z47 cd_z47 ct_z47,PySem.W.fnOf "_law_make" "_law_make" (defArgs s_law_make) (defBody s_law_make) (defScope s_law_make) .none kV_z48 dc_z48 pm_z48 an_z48 cd_z48 ct_z48,PySem.W.fnOf "_law_same" "_law_same" (defArgs s_law_same) (defBody s_law_same) (defScope s_law_same) .none kV_z49 dc_z49 pm_z49 an_z49 cd_z49 ct_z49,PySem.W.fnOf "_law_worth" "_law_worth" (defArgs s_law_worth) (defBody s_law_worth) (defScope s_law_worth) .none kV_z50 dc_z50 pm_z50 an_z50 cd_z50 ct_z50,PySem.W.fnOf "_law_deed" "_law_deed" (defArgs s_law_deed) (defBody s_law_deed) (defScope s_law_deed) .none kV_z51 dc_z51 pm_z51 an_z51 cd_z51 ct_z51,PySem.W.fnOf "_law_tried" "_law_tried" (defArgs s_law_tried) (defBody s_law_tried) (defScope s_law_tried) .none kV_z52 dc_z52 pm_z52 an_z52 cd_z52 ct_z52,PySem.W.fnOf "_law_after" "_law_after" (defArgs s_law_after) (defBody s_law_after) (defScope s_law_after) .none kV_z53 dc_z53 pm_z53 an_z53 cd_z53 ct_z53,PySem.W.fnOf "_law_happened" "_law_happened" (defArgs s_law_happened) (defBody s_law_happened) (defScope s_law_happened) .none kV_z54 dc_z54 pm_z54 an_z54 cd_z54 ct_z54,PySem.W.fnOf "law" "law" (defArgs s_law) (defBody s_law) (defScope s_law) .none kV_z55 dc_z55 pm_z55 an_z55 cd_z55 ct_z55⟩
 have GG:Gs K mg ad dd:=⟨F_z0,B_z0,PySem.W.mg_of X G a_z0,F_z1,B_z1,PySem.W.mg_of X G a_z1,F_z2,B_z2,PySem.W.mg_of X G a_z2,F_z3,B_z3,PySem.W.mg_of X G a_z3,F_z4,B_z4,F_z5,B_z5,⟨a_z5,i_z5,k_z5⟩,F_z6,B_z6,⟨a_z6,i_z6,k_z6⟩,F_z7,B_z7,⟨a_z7,i_z7,k_z7⟩,F_z8,B_z8,⟨a_z8,i_z8,k_z8⟩,F_z9,B_z9,⟨a_z9,i_z9,k_z9⟩,F_z10,B_z10,⟨a_z10,i_z10,k_z10⟩,F_z11,B_z11,F_z12,B_z12,⟨a_z12,i_z12,k_z12⟩,F_z13,B_z13,⟨a_z13,i_z13,k_z13⟩,F_z14,B_z14,⟨a_z14,i_z14,k_z14⟩,F_z15,B_z15,⟨a_z15,i_z15,k_z15⟩,F_z16,B_z16,⟨a_z16,i_z16,k_z16⟩,F_z17,B_z17,F_z18,B_z18,⟨a_z18,i_z18,k_z18⟩,F_z19,B_z19,⟨a_z19,i_z19,k_z19⟩,F_z20,B_z20,⟨a_z20,i_z20,k_z20⟩,F_z21,B_z21,⟨a_z21,i_z21,k_z21⟩,F_z22,B_z22,⟨a_z22,i_z22,k_z22⟩,F_z23,B_z23,F_z24,B_z24,⟨a_z24,i_z24,k_z24⟩,F_z25,B_z25,⟨a_z25,i_z25,k_z25⟩,F_z26,B_z26,⟨a_z26,i_z26,k_z26⟩,F_z27,B_z27,⟨a_z27,i_z27,k_z27⟩,F_z28,B_z28,⟨a_z28,i_z28,k_z28⟩,F_z29,B_z29,⟨a_z29,i_z29,k_z29⟩,F_z30,B_z30,PySem.W.mg_of X G a_z30,F_z31,B_z31,PySem.W.mg_of X G a_z31,F_z32,B_z32,PySem.W.mg_of X G a_z32,F_z33,B_z33,PySem.W.mg_of X G a_z33,F_z34,B_z34,F_z35,B_z35,⟨a_z35,i_z35,k_z35⟩,F_z36,B_z36,⟨a_z36,i_z36,k_z36⟩,F_z37,B_z37,⟨a_z37,i_z37,k_z37⟩,F_z38,B_z38,⟨a_z38,i_z38,k_z38⟩,F_z39,B_z39,⟨a_z39,i_z39,k_z39⟩,F_z40,B_z40,⟨a_z40,i_z40,k_z40⟩,F_z41,B_z41,⟨a_z41,i_z41,k_z41⟩,F_z42,B_z42,⟨a_z42,i_z42,k_z42⟩,F_z43,B_z43,⟨a_z43,i_z43,k_z43⟩,F_z44,B_z44,⟨a_z44,i_z44,k_z44⟩,F_z45,B_z45,⟨a_z45,i_z45,k_z45⟩,F_z46,B_z46,PySem.W.mg_of X G a_z46,F_z47,B_z47,PySem.W.mg_of X G a_z47,F_z48,B_z48,PySem.W.mg_of X G a_z48,F_z49,B_z49,PySem.W.mg_of X G a_z49,F_z50,B_z50,PySem.W.mg_of X G a_z50,F_z51,B_z51,PySem.W.mg_of X G a_z51,F_z52,B_z52,PySem.W.mg_of X G a_z52,F_z53,B_z53,PySem.W.mg_of X G a_z53,F_z54,B_z54,PySem.W.mg_of X G a_z54,F_z55,B_z55,PySem.W.mg_of X G a_z55,⟨pg_Ring,hd_Ring,po_Ring,sa_Ring⟩,PySem.W.mg_of X G aC_Ring,⟨mk_Ring,a_z4,i_z4,kc_Ring⟩,na_Ring_shelf,na_Ring_side,na_Ring_word,na_Ring_laid,na_Ring_fetched,na_Ring_size,na_Ring_rounds,na_Ring_counter_first,⟨pg_Hand,hd_Hand,po_Hand,sa_Hand⟩,PySem.W.mg_of X G aC_Hand,⟨mk_Hand,a_z11,i_z11,kc_Hand⟩,na_Hand_asks,na_Hand_answers,na_Hand_names,na_Hand_going,⟨pg_Heart,hd_Heart,po_Heart,sa_Heart⟩,PySem.W.mg_of X G aC_Heart,⟨mk_Heart,a_z17,i_z17,kc_Heart⟩,na_Heart_asks,na_Heart_answers,na_Heart_doing,⟨pg_Store,hd_Store,po_Store,sa_Store⟩,PySem.W.mg_of X G aC_Store,⟨mk_Store,a_z23,i_z23,kc_Store⟩,na_Store_held,na_Store_rows,⟨pg_Yard,hd_Yard,po_Yard,sa_Yard⟩,PySem.W.mg_of X G aC_Yard,⟨mk_Yard,a_z34,i_z34,kc_Yard⟩,na_Yard_size,na_Yard_rounds,na_Yard_faults,na_Yard_shelf,na_Yard_hand,na_Yard_heart,na_Yard_bell_fences,na_Yard_lie_fences,na_Yard_look_sees,na_Yard_sleepers,na_Yard_quiet,na_Yard_happened,PySem.W.mg_none_of X G n_all,PySem.W.mg_none_of X G n_bool,PySem.W.mg_none_of X G n_int,PySem.W.mg_none_of X G n_isinstance,PySem.W.mg_none_of X G n_len,PySem.W.mg_none_of X G n_list,PySem.W.mg_none_of X G n_range,PySem.W.mg_none_of X G n_reversed,PySem.W.mg_none_of X G n_sorted,PySem.W.mg_none_of X G n_str,PySem.W.mg_none_of X G n_tuple,PySem.W.mg_none_of X G n_zip,PySem.W.mg_of X G aX_RingError,PySem.W.mg_of X G aX_Full,PySem.W.mg_of X G aX_NoName,PySem.W.mg_of X G aX_NoTask,PySem.W.mg_of X G aX_NoDeed,PySem.W.mg_of X G aT_ASKS,λ_=>.inr ⟨_,_,_,kT_ASKS,rfl,rfl,by show 3 <= sizeLine;decide,(.cons ⟨_,rfl⟩ (.cons ⟨_,rfl⟩ (.cons ⟨_,rfl⟩ .nil)))⟩,PySem.W.mg_of X G aT_ANSWERS,λ_=>.inr ⟨_,_,_,kT_ANSWERS,rfl,rfl,by show 3 <= sizeLine;decide,(.cons ⟨_,rfl⟩ (.cons ⟨_,rfl⟩ (.cons ⟨_,rfl⟩ .nil)))⟩,PySem.W.mg_of X G aT_SLEEP_CELLS,λ_=>.inr ⟨_,_,_,kT_SLEEP_CELLS,rfl,rfl,by show 2 <= sizeLine;decide,(.cons ⟨_,rfl⟩ (.cons ⟨_,rfl⟩ .nil))⟩,⟨_,PySem.W.mg_of X G aI_MOST_WORTH⟩,PySem.W.mg_of X G aT_FORMS,⟨kN_FORMS,_,_,_,kT_FORMS,⟨rfl,rfl,rfl⟩,rfl,(.cons rfl rfl (.cons rfl rfl (.cons rfl rfl (.cons rfl rfl (.cons rfl rfl (.cons rfl rfl (.cons rfl rfl (.cons rfl rfl .nil))))))))⟩,λ_=>.inr ⟨_,_,_,kV0_FORMS,rfl,rfl,by show 1 <= sizeLine;decide,(.cons ⟨_,rfl⟩ .nil)⟩,λ_=>.inr ⟨_,_,_,kV1_FORMS,rfl,rfl,by show 0 <= sizeLine;decide,.nil⟩,λ_=>.inr ⟨_,_,_,kV2_FORMS,rfl,rfl,by show 0 <= sizeLine;decide,.nil⟩,λ_=>.inr ⟨_,_,_,kV3_FORMS,rfl,rfl,by show 2 <= sizeLine;decide,(.cons ⟨_,rfl⟩ (.cons ⟨_,rfl⟩ .nil))⟩,λ_=>.inr ⟨_,_,_,kV4_FORMS,rfl,rfl,by show 1 <= sizeLine;decide,(.cons ⟨_,rfl⟩ .nil)⟩,λ_=>.inr ⟨_,_,_,kV5_FORMS,rfl,rfl,by show 1 <= sizeLine;decide,(.cons ⟨_,rfl⟩ .nil)⟩,λ_=>.inr ⟨_,_,_,kV6_FORMS,rfl,rfl,by show 1 <= sizeLine;decide,(.cons ⟨_,rfl⟩ .nil)⟩,λ_=>.inr ⟨_,_,_,kV7_FORMS,rfl,rfl,by show 1 <= sizeLine;decide,(.cons ⟨_,rfl⟩ .nil)⟩,xc_Full,xc_NoName,xc_NoTask,xc_NoDeed,mo_em_dd,mo_em_df,mo_em_dn,mo_em_dt,mo_em_fd,mo_em_ff,mo_em_fn,mo_em_ft,mo_em_nd,mo_em_nf,mo_em_nn,mo_em_nt,mo_em_td,mo_em_tf,mo_em_tn,mo_em_tt⟩
 exact ⟨dd.law,λs v=>.of_eq rfl,λbase _ _=>ok_law GG⟩
theorem walk {l:PySem.W.OpenLaw} {q:Program} {loose:List Str} {XP:(Str->Option Value)->Heap->Prop} {YP:World->Heap->Prop} {d:DefRec} {K:Params->PySem.W.Frag} (hn:l.most=some 63) (hdf:d.params.defaults=[])
   (hY:∀ (w:World) (h:Heap),YP w h->(K w.params).In h)
   (F:∀ (w:World) (mg:Str->Option Value) (fa:Addr) (h:Heap),(K w.params).In h->h.Ns mainGlobals mg->mg d.name=some (.ref fa) ->
     ∃ fd:FuncData,(∀ (s:Shared) (u:Value),BindsTo s fd ⟨[u],[]⟩ [("script",u)])/\∀ base:Heap,(K w.params).In base->base.Ns mainGlobals mg->FnOk l.prog w (K w.params) mg base CX0 17 fa fd ["script"] (sp_law (K w.params))) :
   PySem.W.WalkO q loose XP YP l.row.toRowW d [] (λf vs=>PySem.call f vs) :=
 L2.walk_of (n:=63) (k:=17) (x:="script") (CX:=λ_=>CX0) (sp:=λw=>sp_law (K w.params)) hn (by decide) hdf ⟨rfl,by decide,by decide⟩ hY F (λ_ _ a ns hl _ hS=>⟨a,ns,rfl,hS,hl,λ_=>rfl⟩) λ_ _ _ _ _ z=>z
end My
open PySem PySem.W PyProof.Rows
set_option maxRecDepth 100000 in
set_option maxHeartbeats 0 in
theorem PySem.Challenge.cw_askring_k27_what_happened_holds : PySem.Challenge.rw_askring_k27_what_happened.Holds := by
  w_on; o_law; k_head; (case hw => w_witness2)
  k_fill
  refine My.walk (l := PySem.Challenge.rw_askring_k27_what_happened) rfl rfl (fun w h Y => PySem.W.kIn_of Y) ?F
  case F =>
    intro w mg fa h KX G hmg
    refine' My.all_mk KX G hmg ?aC_Ring ?aC_Hand ?aC_Heart ?aC_Store ?aC_Yard ?a_z0 ?l_z0 ?c_z0 ?k_z0 ?a_z1 ?l_z1 ?c_z1 ?k_z1 ?a_z2 ?l_z2 ?c_z2 ?k_z2 ?a_z3 ?l_z3 ?c_z3 ?k_z3 ?a_z4 ?i_z4 ?l_z4 ?c_z4 ?k_z4 ?a_z5 ?i_z5 ?l_z5 ?c_z5 ?k_z5 ?a_z6 ?i_z6 ?l_z6 ?c_z6 ?k_z6 ?a_z7 ?i_z7 ?l_z7 ?c_z7 ?k_z7 ?a_z8 ?i_z8 ?l_z8 ?c_z8 ?k_z8 ?a_z9 ?i_z9 ?l_z9 ?c_z9 ?k_z9 ?a_z10 ?i_z10 ?l_z10 ?c_z10 ?k_z10 ?a_z11 ?i_z11 ?l_z11 ?c_z11 ?k_z11 ?a_z12 ?i_z12 ?l_z12 ?c_z12 ?k_z12 ?a_z13 ?i_z13 ?l_z13 ?c_z13 ?k_z13 ?a_z14 ?i_z14 ?l_z14 ?c_z14 ?k_z14 ?a_z15 ?i_z15 ?l_z15 ?c_z15 ?k_z15 ?a_z16 ?i_z16 ?l_z16 ?c_z16 ?k_z16 ?a_z17 ?i_z17 ?l_z17 ?c_z17 ?k_z17 ?a_z18 ?i_z18 ?l_z18 ?c_z18 ?k_z18 ?a_z19 ?i_z19 ?l_z19 ?c_z19 ?k_z19 ?a_z20 ?i_z20 ?l_z20 ?c_z20 ?k_z20 ?a_z21 ?i_z21 ?l_z21 ?c_z21 ?k_z21 ?a_z22 ?i_z22 ?l_z22 ?c_z22 ?k_z22 ?a_z23 ?i_z23 ?l_z23 ?c_z23 ?k_z23 ?a_z24 ?i_z24 ?l_z24 ?c_z24 ?k_z24 ?a_z25 ?i_z25 ?l_z25 ?c_z25 ?k_z25 ?a_z26 ?i_z26 ?l_z26 ?c_z26 ?k_z26 ?a_z27 ?i_z27 ?l_z27 ?c_z27 ?k_z27 ?a_z28 ?i_z28 ?l_z28 ?c_z28 ?k_z28 ?a_z29 ?i_z29 ?l_z29 ?c_z29 ?k_z29 ?a_z30 ?l_z30 ?c_z30 ?k_z30 ?a_z31 ?l_z31 ?c_z31 ?k_z31 ?a_z32 ?l_z32 ?c_z32 ?k_z32 ?a_z33 ?l_z33 ?c_z33 ?k_z33 ?a_z34 ?i_z34 ?l_z34 ?c_z34 ?k_z34 ?a_z35 ?i_z35 ?l_z35 ?c_z35 ?k_z35 ?a_z36 ?i_z36 ?l_z36 ?c_z36 ?k_z36 ?a_z37 ?i_z37 ?l_z37 ?c_z37 ?k_z37 ?a_z38 ?i_z38 ?l_z38 ?c_z38 ?k_z38 ?a_z39 ?i_z39 ?l_z39 ?c_z39 ?k_z39 ?a_z40 ?i_z40 ?l_z40 ?c_z40 ?k_z40 ?a_z41 ?i_z41 ?l_z41 ?c_z41 ?k_z41 ?a_z42 ?i_z42 ?l_z42 ?c_z42 ?k_z42 ?a_z43 ?i_z43 ?l_z43 ?c_z43 ?k_z43 ?a_z44 ?i_z44 ?l_z44 ?c_z44 ?k_z44 ?a_z45 ?i_z45 ?l_z45 ?c_z45 ?k_z45 ?a_z46 ?l_z46 ?c_z46 ?k_z46 ?a_z47 ?l_z47 ?c_z47 ?k_z47 ?a_z48 ?l_z48 ?c_z48 ?k_z48 ?a_z49 ?l_z49 ?c_z49 ?k_z49 ?a_z50 ?l_z50 ?c_z50 ?k_z50 ?a_z51 ?l_z51 ?c_z51 ?k_z51 ?a_z52 ?l_z52 ?c_z52 ?k_z52 ?a_z53 ?l_z53 ?c_z53 ?k_z53 ?a_z54 ?l_z54 ?c_z54 ?k_z54 ?a_z55 ?l_z55 ?c_z55 ?k_z55 ?pg_Ring ?hd_Ring ?po_Ring ?sa_Ring ?mk_Ring ?kc_Ring ?na_Ring_shelf ?na_Ring_side ?na_Ring_word ?na_Ring_laid ?na_Ring_fetched ?na_Ring_size ?na_Ring_rounds ?na_Ring_counter_first ?pg_Hand ?hd_Hand ?po_Hand ?sa_Hand ?mk_Hand ?kc_Hand ?na_Hand_asks ?na_Hand_answers ?na_Hand_names ?na_Hand_going ?pg_Heart ?hd_Heart ?po_Heart ?sa_Heart ?mk_Heart ?kc_Heart ?na_Heart_asks ?na_Heart_answers ?na_Heart_doing ?pg_Store ?hd_Store ?po_Store ?sa_Store ?mk_Store ?kc_Store ?na_Store_held ?na_Store_rows ?pg_Yard ?hd_Yard ?po_Yard ?sa_Yard ?mk_Yard ?kc_Yard ?na_Yard_size ?na_Yard_rounds ?na_Yard_faults ?na_Yard_shelf ?na_Yard_hand ?na_Yard_heart ?na_Yard_bell_fences ?na_Yard_lie_fences ?na_Yard_look_sees ?na_Yard_sleepers ?na_Yard_quiet ?na_Yard_happened ?n_all ?n_bool ?n_int ?n_isinstance ?n_len ?n_list ?n_range ?n_reversed ?n_sorted ?n_str ?n_tuple ?n_zip ?aX_RingError ?aX_Full ?aX_NoName ?aX_NoTask ?aX_NoDeed ?aT_ASKS ?kT_ASKS ?aT_ANSWERS ?kT_ANSWERS ?aT_SLEEP_CELLS ?kT_SLEEP_CELLS ?aI_MOST_WORTH ?aT_FORMS ?kT_FORMS ?kN_FORMS ?kV0_FORMS ?kV1_FORMS ?kV2_FORMS ?kV3_FORMS ?kV4_FORMS ?kV5_FORMS ?kV6_FORMS ?kV7_FORMS ?xc_Full ?xc_NoName ?xc_NoTask ?xc_NoDeed ?mo_em_dd ?mo_em_df ?mo_em_dn ?mo_em_dt ?mo_em_fd ?mo_em_ff ?mo_em_fn ?mo_em_ft ?mo_em_nd ?mo_em_nf ?mo_em_nn ?mo_em_nt ?mo_em_td ?mo_em_tf ?mo_em_tn ?mo_em_tt
    (case aC_Ring => k_is)
    (case aC_Hand => k_is)
    (case aC_Heart => k_is)
    (case aC_Store => k_is)
    (case aC_Yard => k_is)
    (case a_z0 => k_is)
    (case l_z0 => k_is)
    (case c_z0 => k_is)
    (case k_z0 => k_is)
    (case a_z1 => k_is)
    (case l_z1 => k_is)
    (case c_z1 => k_is)
    (case k_z1 => k_is)
    (case a_z2 => k_is)
    (case l_z2 => k_is)
    (case c_z2 => k_is)
    (case k_z2 => k_is)
    (case a_z3 => k_is)
    (case l_z3 => k_is)
    (case c_z3 => k_is)
    (case k_z3 => k_is)
    (case a_z4 => k_is)
    (case i_z4 => k_is)
    (case l_z4 => k_is)
    (case c_z4 => k_is)
    (case k_z4 => k_is)
    (case a_z5 => k_is)
    (case i_z5 => k_is)
    (case l_z5 => k_is)
    (case c_z5 => k_is)
    (case k_z5 => k_is)
    (case a_z6 => k_is)
    (case i_z6 => k_is)
    (case l_z6 => k_is)
    (case c_z6 => k_is)
    (case k_z6 => k_is)
    (case a_z7 => k_is)
    (case i_z7 => k_is)
    (case l_z7 => k_is)
    (case c_z7 => k_is)
    (case k_z7 => k_is)
    (case a_z8 => k_is)
    (case i_z8 => k_is)
    (case l_z8 => k_is)
    (case c_z8 => k_is)
    (case k_z8 => k_is)
    (case a_z9 => k_is)
    (case i_z9 => k_is)
    (case l_z9 => k_is)
    (case c_z9 => k_is)
    (case k_z9 => k_is)
    (case a_z10 => k_is)
    (case i_z10 => k_is)
    (case l_z10 => k_is)
    (case c_z10 => k_is)
    (case k_z10 => k_is)
    (case a_z11 => k_is)
    (case i_z11 => k_is)
    (case l_z11 => k_is)
    (case c_z11 => k_is)
    (case k_z11 => k_is)
    (case a_z12 => k_is)
    (case i_z12 => k_is)
    (case l_z12 => k_is)
    (case c_z12 => k_is)
    (case k_z12 => k_is)
    (case a_z13 => k_is)
    (case i_z13 => k_is)
    (case l_z13 => k_is)
    (case c_z13 => k_is)
    (case k_z13 => k_is)
    (case a_z14 => k_is)
    (case i_z14 => k_is)
    (case l_z14 => k_is)
    (case c_z14 => k_is)
    (case k_z14 => k_is)
    (case a_z15 => k_is)
    (case i_z15 => k_is)
    (case l_z15 => k_is)
    (case c_z15 => k_is)
    (case k_z15 => k_is)
    (case a_z16 => k_is)
    (case i_z16 => k_is)
    (case l_z16 => k_is)
    (case c_z16 => k_is)
    (case k_z16 => k_is)
    (case a_z17 => k_is)
    (case i_z17 => k_is)
    (case l_z17 => k_is)
    (case c_z17 => k_is)
    (case k_z17 => k_is)
    (case a_z18 => k_is)
    (case i_z18 => k_is)
    (case l_z18 => k_is)
    (case c_z18 => k_is)
    (case k_z18 => k_is)
    (case a_z19 => k_is)
    (case i_z19 => k_is)
    (case l_z19 => k_is)
    (case c_z19 => k_is)
    (case k_z19 => k_is)
    (case a_z20 => k_is)
    (case i_z20 => k_is)
    (case l_z20 => k_is)
    (case c_z20 => k_is)
    (case k_z20 => k_is)
    (case a_z21 => k_is)
    (case i_z21 => k_is)
    (case l_z21 => k_is)
    (case c_z21 => k_is)
    (case k_z21 => k_is)
    (case a_z22 => k_is)
    (case i_z22 => k_is)
    (case l_z22 => k_is)
    (case c_z22 => k_is)
    (case k_z22 => k_is)
    (case a_z23 => k_is)
    (case i_z23 => k_is)
    (case l_z23 => k_is)
    (case c_z23 => k_is)
    (case k_z23 => k_is)
    (case a_z24 => k_is)
    (case i_z24 => k_is)
    (case l_z24 => k_is)
    (case c_z24 => k_is)
    (case k_z24 => k_is)
    (case a_z25 => k_is)
    (case i_z25 => k_is)
    (case l_z25 => k_is)
    (case c_z25 => k_is)
    (case k_z25 => k_is)
    (case a_z26 => k_is)
    (case i_z26 => k_is)
    (case l_z26 => k_is)
    (case c_z26 => k_is)
    (case k_z26 => k_is)
    (case a_z27 => k_is)
    (case i_z27 => k_is)
    (case l_z27 => k_is)
    (case c_z27 => k_is)
    (case k_z27 => k_is)
    (case a_z28 => k_is)
    (case i_z28 => k_is)
    (case l_z28 => k_is)
    (case c_z28 => k_is)
    (case k_z28 => k_is)
    (case a_z29 => k_is)
    (case i_z29 => k_is)
    (case l_z29 => k_is)
    (case c_z29 => k_is)
    (case k_z29 => k_is)
    (case a_z30 => k_is)
    (case l_z30 => k_is)
    (case c_z30 => k_is)
    (case k_z30 => k_is)
    (case a_z31 => k_is)
    (case l_z31 => k_is)
    (case c_z31 => k_is)
    (case k_z31 => k_is)
    (case a_z32 => k_is)
    (case l_z32 => k_is)
    (case c_z32 => k_is)
    (case k_z32 => k_is)
    (case a_z33 => k_is)
    (case l_z33 => k_is)
    (case c_z33 => k_is)
    (case k_z33 => k_is)
    (case a_z34 => k_is)
    (case i_z34 => k_is)
    (case l_z34 => k_is)
    (case c_z34 => k_is)
    (case k_z34 => k_is)
    (case a_z35 => k_is)
    (case i_z35 => k_is)
    (case l_z35 => k_is)
    (case c_z35 => k_is)
    (case k_z35 => k_is)
    (case a_z36 => k_is)
    (case i_z36 => k_is)
    (case l_z36 => k_is)
    (case c_z36 => k_is)
    (case k_z36 => k_is)
    (case a_z37 => k_is)
    (case i_z37 => k_is)
    (case l_z37 => k_is)
    (case c_z37 => k_is)
    (case k_z37 => k_is)
    (case a_z38 => k_is)
    (case i_z38 => k_is)
    (case l_z38 => k_is)
    (case c_z38 => k_is)
    (case k_z38 => k_is)
    (case a_z39 => k_is)
    (case i_z39 => k_is)
    (case l_z39 => k_is)
    (case c_z39 => k_is)
    (case k_z39 => k_is)
    (case a_z40 => k_is)
    (case i_z40 => k_is)
    (case l_z40 => k_is)
    (case c_z40 => k_is)
    (case k_z40 => k_is)
    (case a_z41 => k_is)
    (case i_z41 => k_is)
    (case l_z41 => k_is)
    (case c_z41 => k_is)
    (case k_z41 => k_is)
    (case a_z42 => k_is)
    (case i_z42 => k_is)
    (case l_z42 => k_is)
    (case c_z42 => k_is)
    (case k_z42 => k_is)
    (case a_z43 => k_is)
    (case i_z43 => k_is)
    (case l_z43 => k_is)
    (case c_z43 => k_is)
    (case k_z43 => k_is)
    (case a_z44 => k_is)
    (case i_z44 => k_is)
    (case l_z44 => k_is)
    (case c_z44 => k_is)
    (case k_z44 => k_is)
    (case a_z45 => k_is)
    (case i_z45 => k_is)
    (case l_z45 => k_is)
    (case c_z45 => k_is)
    (case k_z45 => k_is)
    (case a_z46 => k_is)
    (case l_z46 => k_is)
    (case c_z46 => k_is)
    (case k_z46 => k_is)
    (case a_z47 => k_is)
    (case l_z47 => k_is)
    (case c_z47 => k_is)
    (case k_z47 => k_is)
    (case a_z48 => k_is)
    (case l_z48 => k_is)
    (case c_z48 => k_is)
    (case k_z48 => k_is)
    (case a_z49 => k_is)
    (case l_z49 => k_is)
    (case c_z49 => k_is)
    (case k_z49 => k_is)
    (case a_z50 => k_is)
    (case l_z50 => k_is)
    (case c_z50 => k_is)
    (case k_z50 => k_is)
    (case a_z51 => k_is)
    (case l_z51 => k_is)
    (case c_z51 => k_is)
    (case k_z51 => k_is)
    (case a_z52 => k_is)
    (case l_z52 => k_is)
    (case c_z52 => k_is)
    (case k_z52 => k_is)
    (case a_z53 => k_is)
    (case l_z53 => k_is)
    (case c_z53 => k_is)
    (case k_z53 => k_is)
    (case a_z54 => k_is)
    (case l_z54 => k_is)
    (case c_z54 => k_is)
    (case k_z54 => k_is)
    (case a_z55 => k_is)
    (case l_z55 => k_is)
    (case c_z55 => k_is)
    (case k_z55 => k_is)
    (case pg_Ring => k_is)
    (case hd_Ring => k_is)
    (case po_Ring => k_is)
    (case sa_Ring => k_is)
    (case mk_Ring => k_is)
    (case kc_Ring => k_is)
    (case na_Ring_shelf => k_is)
    (case na_Ring_side => k_is)
    (case na_Ring_word => k_is)
    (case na_Ring_laid => k_is)
    (case na_Ring_fetched => k_is)
    (case na_Ring_size => k_is)
    (case na_Ring_rounds => k_is)
    (case na_Ring_counter_first => k_is)
    (case pg_Hand => k_is)
    (case hd_Hand => k_is)
    (case po_Hand => k_is)
    (case sa_Hand => k_is)
    (case mk_Hand => k_is)
    (case kc_Hand => k_is)
    (case na_Hand_asks => k_is)
    (case na_Hand_answers => k_is)
    (case na_Hand_names => k_is)
    (case na_Hand_going => k_is)
    (case pg_Heart => k_is)
    (case hd_Heart => k_is)
    (case po_Heart => k_is)
    (case sa_Heart => k_is)
    (case mk_Heart => k_is)
    (case kc_Heart => k_is)
    (case na_Heart_asks => k_is)
    (case na_Heart_answers => k_is)
    (case na_Heart_doing => k_is)
    (case pg_Store => k_is)
    (case hd_Store => k_is)
    (case po_Store => k_is)
    (case sa_Store => k_is)
    (case mk_Store => k_is)
    (case kc_Store => k_is)
    (case na_Store_held => k_is)
    (case na_Store_rows => k_is)
    (case pg_Yard => k_is)
    (case hd_Yard => k_is)
    (case po_Yard => k_is)
    (case sa_Yard => k_is)
    (case mk_Yard => k_is)
    (case kc_Yard => k_is)
    (case na_Yard_size => k_is)
    (case na_Yard_rounds => k_is)
    (case na_Yard_faults => k_is)
    (case na_Yard_shelf => k_is)
    (case na_Yard_hand => k_is)
    (case na_Yard_heart => k_is)
    (case na_Yard_bell_fences => k_is)
    (case na_Yard_lie_fences => k_is)
    (case na_Yard_look_sees => k_is)
    (case na_Yard_sleepers => k_is)
    (case na_Yard_quiet => k_is)
    (case na_Yard_happened => k_is)
    (case n_all => k_is)
    (case n_bool => k_is)
    (case n_int => k_is)
    (case n_isinstance => k_is)
    (case n_len => k_is)
    (case n_list => k_is)
    (case n_range => k_is)
    (case n_reversed => k_is)
    (case n_sorted => k_is)
    (case n_str => k_is)
    (case n_tuple => k_is)
    (case n_zip => k_is)
    (case aX_RingError => k_is)
    (case aX_Full => k_is)
    (case aX_NoName => k_is)
    (case aX_NoTask => k_is)
    (case aX_NoDeed => k_is)
    (case aT_ASKS => k_is)
    (case kT_ASKS => k_is)
    (case aT_ANSWERS => k_is)
    (case kT_ANSWERS => k_is)
    (case aT_SLEEP_CELLS => k_is)
    (case kT_SLEEP_CELLS => k_is)
    (case aI_MOST_WORTH => k_is)
    (case aT_FORMS => k_is)
    (case kT_FORMS => k_is)
    (case kN_FORMS => first | rfl | decide)
    (case kV0_FORMS => k_is)
    (case kV1_FORMS => k_is)
    (case kV2_FORMS => k_is)
    (case kV3_FORMS => k_is)
    (case kV4_FORMS => k_is)
    (case kV5_FORMS => k_is)
    (case kV6_FORMS => k_is)
    (case kV7_FORMS => k_is)
    (case xc_Full => k_exc)
    (case xc_NoName => k_exc)
    (case xc_NoTask => k_exc)
    (case xc_NoDeed => k_exc)
    (case mo_em_dd => kts_exm)
    (case mo_em_df => kts_exm)
    (case mo_em_dn => kts_exm)
    (case mo_em_dt => kts_exm)
    (case mo_em_fd => kts_exm)
    (case mo_em_ff => kts_exm)
    (case mo_em_fn => kts_exm)
    (case mo_em_ft => kts_exm)
    (case mo_em_nd => kts_exm)
    (case mo_em_nf => kts_exm)
    (case mo_em_nn => kts_exm)
    (case mo_em_nt => kts_exm)
    (case mo_em_td => kts_exm)
    (case mo_em_tf => kts_exm)
    (case mo_em_tn => kts_exm)
    (case mo_em_tt => kts_exm)
#print axioms PySem.Challenge.cw_askring_k27_what_happened_holds

