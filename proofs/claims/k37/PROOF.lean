import PyProof.Rows.All
import Wide.All
import OpenK.AllK
import Wide.FinOn
import Lean
import PyProof.EqAt
import PyProof.EqKinds
import PyProof.TupleCall
import PyProof.ZipIter
import PyProof.NeKinds
import PyProof.Rows.CallKwBuiltin
import KE.KDictSum
import KE.KSortTup
import KE.KRevIter
import PyProof.Rows.Range3
import PyProof.Rows.FactsT2
import PyProof.DictTable
import PyProof.NsDelKeeps
import PyProof.Rows.SortRuns
import PyProof.ListRange
import KE.KLam
import KE.KNestM
import KE.KIntText
import PyProof.StrLawsTight
import PyProof.StrLawsIn
import PyProof.StrLawsAffix
import PyProof.StrLawsChain
import PyProof.StrWalks
import PyProof.ConsumeWalk
import PyProof.SliceStr2
import PyProof.StrLawsIdx
import PyProof.StrOps2
import PyProof.AutoSeq1
import PyProof.ListMulRoad
import KE.KSortKey
import PyProof.DictTruth
import PyProof.Rows.SetFrom
import PyProof.SetRoads
import PyProof.Cells
import PyProof.TupleKey
import OpenK.KMore
import PyProof.CollectIter
import PyProof.Rows.FStr
import PyProof.ToksMono
import PyProof.StrOps
import PyProof.StrCalls6
import PySem.Challenge.RW_toldsums_k37_desk_refused
set_option Elab.async false
set_option linter.all false
set_option maxRecDepth 100000
set_option maxHeartbeats 4000000
namespace L2
open PySem PySem.Spec PyProof.Rows
section
abbrev Key:=Sum Int Str
def bu:Key→Value→Bool
 | .inl k,v=>Value.isInt k v
 | .inr x,v=>Value.isStrOf x v
def zin (w:World):Key→Int
 | .inl k=>hashInt k
 | .inr x=>hashStr w x
theorem zQ:∀{k:Key}{v:Value},bu k v=true→(∃i t,k=Sum.inl i∧v=Value.int i t)∨(∃x t,k=Sum.inr x∧v=Value.str x t)
 | .inl i,v,h=>by
  obtain⟨t,e⟩:=Value.isInt_shape (k:=i) (v:=v) h
  exact .inl ⟨i,t,rfl,e⟩
 | .inr x,v,h=>by
  obtain⟨t,e⟩:=Value.isStrOf_shape (x:=x) (v:=v) h
  exact .inr ⟨x,t,rfl,e⟩
theorem zcO (i:Int)(t:Tok):bu (.inl i) (.int i t)=true:=by simp[bu,Value.isInt]
theorem yv (x:Str)(t:Tok):bu (.inr x) (.str x t)=true:=by simp[bu,Value.isStrOf]
theorem zgE (a b:Int):decide ((Sum.inl a:Key)=Sum.inl b)=(a==b):=by
 by_cases e:a=b
 ·subst e;simp
 ·have h:¬(Sum.inl a:Key)=Sum.inl b:=fun q=>e (Sum.inl.inj q)
  rw[decide_eq_false h]
  exact(beq_eq_false_iff_ne.mpr e).symm
theorem zgB (a b:Str):decide ((Sum.inr a:Key)=Sum.inr b)=decide (a=b):=by
 by_cases e:a=b
 ·subst e;simp
 ·have h:¬(Sum.inr a:Key)=Sum.inr b:=fun q=>e (Sum.inr.inj q)
  rw[decide_eq_false h,decide_eq_false e]
theorem zgD (a:Int)(b:Str):decide ((Sum.inl a:Key)=Sum.inr b)=false:=decide_eq_false (fun q=>nomatch q)
theorem zgC (a:Str)(b:Int):decide ((Sum.inr a:Key)=Sum.inl b)=false:=decide_eq_false (fun q=>nomatch q)
def zY (prog:Program)(w:World):PySem.KeyKind prog w Key where
 is:=bu
 hash:=zin w
 inj:=fun v a b ha hb=>by
  rcases zQ ha with⟨i,t,rfl,rfl⟩|⟨x,t,rfl,rfl⟩
  ·rcases zQ hb with⟨j,u,rfl,e⟩|⟨y,u,rfl,e⟩
   ·injection e with e1 _;rw[e1]
   ·exact nomatch e
  ·rcases zQ hb with⟨j,u,rfl,e⟩|⟨y,u,rfl,e⟩
   ·exact nomatch e
   ·injection e with e1 _;rw[e1]
 byValue:=fun k v h=>by
  rcases zQ h with⟨i,t,rfl,rfl⟩|⟨x,t,rfl,rfl⟩<;>rfl
 pyHash:=fun hv h=>by
  rcases zQ hv with⟨i,t,rfl,rfl⟩|⟨x,t,rfl,rfl⟩
  ·exact wpAny_pyHash_int h
  ·exact wpAny_pyHash_str h
 eqBool:=fun hu hv h=>by
  rcases zQ hu with⟨i,t,rfl,rfl⟩|⟨x,t,rfl,rfl⟩
  ·rcases zQ hv with⟨j,u,rfl,rfl⟩|⟨y,u,rfl,rfl⟩
   ·rw[zgE] at h;exact wpAny_eqBool_int h
   ·rw[zgD] at h;exact SeqAt.EqAt.int_str i t y u _ _ _ _ h
  ·rcases zQ hv with⟨j,u,rfl,rfl⟩|⟨y,u,rfl,rfl⟩
   ·rw[zgC] at h;exact SeqAt.EqAt.str_int x t j u _ _ _ _ h
   ·rw[zgB] at h;exact wpAny_eqBool_str h
 «strs»:=fun k x t v h=>by
  rcases zQ h with⟨i,u,rfl,e⟩|⟨y,u,rfl,e⟩
  ·exact nomatch e
  ·injection e with e1 _
   subst e1
   cases v<;>rfl
theorem zag (prog:Program)(w:World)(i:Int)(t:Tok):(zY prog w).is (.inl i) (.int i t)=true:=zcO i t
theorem zaf (prog:Program)(w:World)(x:Str)(t:Tok):(zY prog w).is (.inr x) (.str x t)=true:=yv x t
end
section
inductive V where
 |non|bl (b:Bool)|int (i:Int)|str (x:Str)|byt (b:Array UInt8)|tst (x:Str) (t:Tok)|ref (a:Addr)|ty (n:String)
 deriving DecidableEq
def RelV:V→Value→Prop
 | .non,u=>u=Value.none
 | .bl b,u=>u=Value.bool b
 | .int i,u=>∃t,u=Value.int i t
 | .str x,u=>∃t,u=Value.str x t
 | .byt b,u=>∃t,u=Value.bytes b t
 | .tst x t,u=>u=Value.str x t
 | .ref a,u=>u=Value.ref a
 | .ty n,u=>u=Value.type n
def V.isT:V→Bool
 | .tst ..=>true
 |_=>false
abbrev noT (xs:List V):Prop:=∀x∈xs,V.isT x=false
abbrev Vals:List V→List Value→Prop:=Paired RelV
theorem Vals.length {xs:List V}{us:List Value}(r:Vals xs us):xs.length=us.length:=Paired.length r
theorem Vals.get:∀{xs:List V}{us:List Value}{i:Nat}{x:V},Vals xs us→xs[i]?=some x→∃u,us[i]?=some u∧RelV x u
 |_,_,_,_,.nil,e=>by simp at e
 |_,_,0,_,.cons r _,e=>by simp at e;subst e;exact⟨_,rfl,r⟩
 |_,_,i+1,x,.cons _ t,e=>by
  obtain⟨u,h1,h2⟩:=Vals.get (i:=i) (x:=x) t (by simpa using e)
  exact⟨u,by simpa using h1,h2⟩
theorem Vals.set {x:V}{u:Value}(r:RelV x u):∀{xs:List V}{us:List Value}(i:Nat),Vals xs us→Vals (xs.set i x) (us.set i u)
 |_,_,_,.nil=>.nil
 |_,_,0,.cons _ t=>.cons r t
 |_,_,i+1,.cons q t=>.cons q (Vals.set r i t)
theorem Vals.append:∀{xs ys:List V}{us ws:List Value},Vals xs us→Vals ys ws→Vals (xs++ys) (us++ws)
 |_,_,_,_,.nil,s=>s
 |_,_,_,_,.cons r t,s=>.cons r (Vals.append t s)
theorem Vals.take:∀{xs:List V}{us:List Value}(n:Nat),Vals xs us→Vals (xs.take n) (us.take n)
 |_,_,0,_=>.nil
 |_,_,_+1,.nil=>.nil
 |_,_,n+1,.cons r t=>.cons r (Vals.take n t)
theorem Vals.drop:∀{xs:List V}{us:List Value}(n:Nat),Vals xs us→Vals (xs.drop n) (us.drop n)
 |_,_,0,r=>r
 |_,_,_+1,.nil=>.nil
 |_,_,n+1,.cons _ t=>Vals.drop n t
def RelO:Option V→Option Value→Prop
 |some v,some u=>RelV v u
 |none,none=>True
 |_,_=>False
def KV {κ:Type}:List (κ×V)→List (κ×Value)→Prop:=Paired fun(p:κ×V) (q:κ×Value)=>p.1=q.1∧RelV p.2 q.2
def kV:Key→V
 | .inl i=>.int i
 | .inr x=>.str x
inductive HO where
 |lst (xs:List V)
 |tup (xs:List V)
 |dK (kvs:List (Key×V))|dT (kvs:List (List Key×V))
 |set (S:Int→Bool) (n:Nat)
 |ins (C dx:Addr) (fs:List (Str×V))
 |own (x:Addr)
 |xd (fs:List (Str×V))
 |met (f x:Addr)
 |rng (lo hi:Int)
 |frz (o:Obj) (u:HO)
 |tbl (ps:Array Value)
 |ext (φ:Heap→Prop)
abbrev Hp:=Addr→Option HO
def upd (H:Hp)(a:Addr)(o:HO):Hp:=fun b=>if b=a then some o else H b
theorem zb {H:Hp}{a:Addr}{o:HO}:upd H a o a=some o:=by unfold upd;rw[if_pos rfl]
theorem zf {H:Hp}{a b:Addr}{o:HO}(h:b≠a):upd H a o b=H b:=by unfold upd;rw[if_neg h]
theorem wQ {H:Hp}{a b:Addr}{o u:HO}(h:H a=some o)(h':H b=some u)(d:o≠u):a≠b:=by
 intro e;subst e;rw[h] at h';exact d (Option.some.inj h')
theorem zc {H:Hp}{a b:Addr}{o:HO}(h:H a=some o)(h':H b=none):a≠b:=by
 intro e;subst e;rw[h] at h';cases h'
section
variable (P:Program)(w:World)
def ObjOk (H:Hp)(h:Heap)(a:Addr):HO→Prop
 | .lst xs=>xs.length≤sizeLine∧∃(its:List Value) (n:Nat),Vals xs its∧h.get? a=some { cls:=.type "list",data:=.seq its.toArray n }
 | .tup xs=>xs.length≤sizeLine∧∃its:List Value,Vals xs its∧IsTup h a its.toArray
 | .dK kvs=>kvs.length≤sizeLine∧(a==sysModules)=false∧∃vs,KV kvs vs∧h.DictOf (zY P w) a vs
 | .dT kvs=>kvs.length≤sizeLine∧(a==sysModules)=false∧∃xs:List (List Key×Addr×Value),
  Paired (fun(p:List Key×V) (q:List Key×Addr×Value)=>p.1=q.1∧H q.2.1=some (.tup (p.1.map kV))∧RelV p.2 q.2.2) kvs xs∧
  ∃o es ep,h.get? a=some o∧o.ExactDict∧o.data=.dict es ep∧es.toList=xs.map (entryOfKey (tupleKind (zY P w)))∧(xs.map (·.1)).Nodup
 | .set S n=>h.SetOf (intKind P w) a S n
 | .ins C dx fs=>H dx=some (.own a)∧fs.length≤1000∧dx≠a∧h.get? a=some (PySem.W.instObj C dx)∧
  ∃mA,h.Ns1 dx mA∧(∀f,RelO (fs.lookup f) (mA f))∧PySem.Within mA (fs.map (·.1))
 | .own _=>∃o,h.get? a=some o
 | .xd fs=>∃mA,h.Ns1 a mA∧∀f,RelO (fs.lookup f) (mA f)
 | .rng lo hi=>∃t u v,h.get? a=some { cls:=.type "range",data:=.fields #[.int lo t,.int hi u,.int 1 v] }
 | .frz o u=>h.get? a=some o∧ObjOk H h a u
 | .tbl ps=>h.get? a=some { cls:=.none,data:=.fields ps }
 | .met f x=>h.get? a=some (PySem.W.methodObj (.ref f) (.ref x))
 | .ext φ=>φ h∧(∃o,h.get? a=some o)∧∀h1 h2:Heap,φ h1→(∀o,h1.get? a=some o→h2.get? a=some o)→φ h2
def HOk (H:Hp)(h:Heap):Prop:=∀a o,H a=some o→ObjOk P w H h a o
end
section
variable {P:Program}{w:World}{H H':Hp}{h h':Heap}{a:Addr}{o:HO}
theorem ObjOk.lt (x:ObjOk P w H h a o):a<h.objs.size:=by
 cases o with
 |lst xs=>obtain⟨_,_,_,_,e⟩:=x;exact Heap.lt_size e
 |tup xs=>obtain⟨_,_,_,p⟩:=x;exact p.lt
 |dK kvs=>obtain⟨_,_,_,_,o,_,_,e,_⟩:=x;exact Heap.lt_size e
 |dT kvs=>obtain⟨_,_,_,_,o,_,_,e,_⟩:=x;exact Heap.lt_size e
 |set S n=>obtain⟨o,_,_,_,e,_⟩:=x;exact Heap.lt_size e
 |ins C dx fs=>obtain⟨_,_,_,e,_⟩:=x;exact Heap.lt_size e
 |own y=>obtain⟨_,e⟩:=x;exact Heap.lt_size e
 |xd fs=>obtain⟨_,⟨_,_,_,e,_⟩,_⟩:=x;exact Heap.lt_size e
 |rng lo hi=>obtain⟨_,_,_,e⟩:=x;exact Heap.lt_size e
 |frz ob u=>obtain⟨e,_⟩:=x;exact Heap.lt_size e
 |tbl ps=>exact Heap.lt_size (show h.get? a=some _ from x)
 |met f y=>exact Heap.lt_size (show h.get? a=some _ from x)
 |ext φ=>obtain⟨_,⟨_,e⟩,_⟩:=x;exact Heap.lt_size e
theorem Paired.mapP {α β:Type}{F G:α→β→Prop}:∀{l₁:List α}{l₂:List β},Paired F l₁ l₂→(∀a b,F a b→G a b)→Paired G l₁ l₂
 |_,_,.nil,_=>.nil
 |_,_,.cons r t,f=>.cons (f _ _ r) (Paired.mapP t f)
theorem Paired.imp' {α β:Type}{F G:α→β→Prop}(f:∀a b,F a b→G a b){l₁:List α}{l₂:List β}(r:Paired F l₁ l₂):Paired G l₁ l₂:=Paired.mapP r f
theorem ObjOk.stay (x:ObjOk P w H h a o)(k:∀b u,(b=a∨H b=some (.own a))→h.get? b=some u→h'.get? b=some u)
 (ho:∀b,H b=some (.own a)→H' b=some (.own a)) (ht:∀b xs,H b=some (.tup xs)→H' b=some (.tup xs)):ObjOk P w H' h' a o:=by
 induction o with
 |lst xs=>obtain⟨z,its,n,r,e⟩:=x;exact⟨z,its,n,r,k _ _ (.inl rfl) e⟩
 |tup xs=>obtain⟨z,its,r,ob,e,c⟩:=x;exact⟨z,its,r,ob,k _ _ (.inl rfl) e,c⟩
 |dK kvs=>obtain⟨z,y,vs,r,ob,es,ep,e,c⟩:=x;exact⟨z,y,vs,r,ob,es,ep,k _ _ (.inl rfl) e,c⟩
 |dT kvs=>
  obtain⟨z,y,xs,r,ob,es,ep,e,c⟩:=x
  exact⟨z,y,xs,Paired.mapP r fun p q z=>⟨z.1,ht _ _ z.2.1,z.2.2⟩,ob,es,ep,k _ _ (.inl rfl) e,c⟩
 |set S n=>obtain⟨ob,es,ep,t,e,c⟩:=x;exact⟨ob,es,ep,t,k _ _ (.inl rfl) e,c⟩
 |ins C dx fs=>
  obtain⟨d,z,ne,e,mA,⟨od,es,ep,e2,c⟩,r⟩:=x
  exact⟨ho _ d,z,ne,k _ _ (.inl rfl) e,mA,⟨od,es,ep,k _ _ (.inr d) e2,c⟩,r⟩
 |own y=>obtain⟨ob,e⟩:=x;exact⟨ob,k _ _ (.inl rfl) e⟩
 |xd fs=>obtain⟨mA,⟨od,es,ep,e,c⟩,r⟩:=x;exact⟨mA,⟨od,es,ep,k _ _ (.inl rfl) e,c⟩,r⟩
 |rng lo hi=>obtain⟨t,u,v,e⟩:=x;exact⟨t,u,v,k _ _ (.inl rfl) e⟩
 |frz ob u ih=>obtain⟨e,q⟩:=x;exact⟨k _ _ (.inl rfl) e,ih q⟩
 |tbl ps=>
  have e:h.get? a=some { cls:=.none,data:=.fields ps }:=x
  show h'.get? a=some { cls:=.none,data:=.fields ps }
  exact k a _ (.inl rfl) e
 |met f y=>
  have e:h.get? a=some (PySem.W.methodObj (.ref f) (.ref y)):=x
  show h'.get? a=some (PySem.W.methodObj (.ref f) (.ref y))
  exact k a _ (.inl rfl) e
 |ext φ=>obtain⟨p,⟨o,e⟩,st⟩:=x;exact⟨st _ _ p fun o q=>k _ _ (.inl rfl) q,⟨o,k _ _ (.inl rfl) e⟩,st⟩
theorem HOk.lt (x:HOk P w H h)(e:H a=some o):a<h.objs.size:=(x a o e).lt
theorem HOk.fresh (x:HOk P w H h)(e:h.objs.size≤a):H a=none:=by
 cases q:H a with
 |none=>rfl
 |some u=>exact absurd (Nat.lt_of_lt_of_le (x.lt q) e) (Nat.lt_irrefl _)
theorem HOk.kept (x:HOk P w H h)(k:∀b u,h.get? b=some u→h'.get? b=some u):HOk P w H h':=fun a o e=>
 (x a o e).stay (fun b u _ q=>k b u q) (fun _ q=>q) fun _ _ q=>q
theorem HOk.laid (x:HOk P w H h)(k:∀b u,h.get? b=some u→h'.get? b=some u)(hp:h.objs.size≤a)(new:ObjOk P w (upd H a o) h' a o):HOk P w (upd H a o) h':=fun b u e=>by
 have hn:=x.fresh hp
 by_cases hb:b=a
 ·subst hb;rw[zb] at e;cases e;exact new
 ·rw[zf hb] at e
  exact(x b u e).stay (fun c v _ q=>k c v q) (fun c q=>by rw[zf (zc q hn)];exact q) fun c xs q=>by rw[zf (zc q hn)];exact q
end
def Rd (H:Hp)(a:Addr)(u:HO):Prop:=H a=some u∨∃o,H a=some (.frz o u)
theorem Rd.of {H:Hp}{a:Addr}{u:HO}(h:H a=some u):Rd H a u:=.inl h
theorem Rd.ok {P:Program}{w:World}{H:Hp}{h:Heap}{a:Addr}{u:HO}(r:Rd H a u)(x:HOk P w H h):ObjOk P w H h a u:=by
 rcases r with r|⟨o,r⟩
 ·exact x a u r
 ·obtain⟨_,q⟩:=x a _ r
  exact q
def Mut:Option HO→Prop
 |some (.lst _)=>True
 |some (.dK _)=>True
 |some (.dT _)=>True
 |some (.set _ _)=>True
 |some (.ins _ _ _)=>True
 |some (.ext _)=>True
 |_=>False
section
variable {P:Program}{w:World}{H:Hp}{h h':Heap}{x e:Addr}{o':HO}
theorem HOk.write (ok:HOk P w H h)(mu:Mut (H x))(he:e=x∨H e=some (.own x))(k:∀b u,b≠e→h.get? b=some u→h'.get? b=some u)(heo:∃u,h'.get? e=some u)
 (new:ObjOk P w (upd H x o') h' x o'):HOk P w (upd H x o') h':=fun b u q=>by
 have nown:∀c y,H c=some (.own y)→c≠x:=fun c y r z=>by subst z;rw[r] at mu;exact mu
 have ntup:∀c xs,H c=some (.tup xs)→c≠x:=fun c xs r z=>by subst z;rw[r] at mu;exact mu
 by_cases hb:b=x
 ·subst hb;rw[zb] at q;cases q;exact new
 ·rw[zf hb] at q
  by_cases hbe:b=e
  ·have q':H b=some (.own x):=by
    rcases he with z|z
    ·exact absurd (hbe.trans z) hb
    ·rw[hbe];exact z
   rw[q] at q';cases q'
   obtain⟨v,hv⟩:=heo
   exact⟨v,by rw[hbe];exact hv⟩
  ·refine(ok b u q).stay (fun c v hc r=>k c v ?_ r) (fun c r=>by rw[zf (nown c b r)];exact r) fun c xs r=>by rw[zf (ntup c xs r)];exact r
   rcases hc with rfl|hc
   ·exact hbe
   ·rintro rfl
    rcases he with z|z
    ·exact nown c b hc z
    ·rw[hc] at z;cases z;exact hb rfl
end
structure Un (fs ex:List Addr)(H H':Hp)(h h':Heap):Prop where
 keep:∀b o,h.get? b=some o→H b=none→b∉fs→b∉ex→h'.get? b=some o
 slot:∀b o,h.get? b=some o→H b=none→b∈fs→b∉ex→∃sl,h'.get? b=some { o with slots:=sl }
 free:∀b o,h.get? b=some o→H b=none→b∉ex→H' b=none
 there:∀b o,h.get? b=some o→b∉ex→∃o',h'.get? b=some o'
 tups:∀b xs,H b=some (.tup xs)→H' b=some (.tup xs)
 frzs:∀b o u,H b=some (.frz o u)→H' b=some (.frz o u)
 tbls:∀b ps,H b=some (.tbl ps)→∃more,H' b=some (.tbl (ps++more))
section
variable {fs fs' ex ex':List Addr}{H H1 H2:Hp}{h h1 h2 h':Heap}{a x e:Addr}{o:HO}
theorem Un.any (u:Un fs ex H H1 h h1){b:Addr}{ob:Obj}(q:h.get? b=some ob)(n:H b=none)(hx:b∉ex):∃sl,h1.get? b=some { ob with slots:=sl }:=by
 by_cases hb:b∈fs
 ·exact u.slot b ob q n hb hx
 ·exact⟨ob.slots,u.keep b ob q n hb hx⟩
theorem Un.trans (a:Un fs ex H H1 h h1)(b:Un fs ex H1 H2 h1 h2):Un fs ex H H2 h h2 where
 keep:=fun c ob q n hc hx=>b.keep c ob (a.keep c ob q n hc hx) (a.free c ob q n hx) hc hx
 slot:=fun c ob q n hc hx=>by
  obtain⟨sl,e1⟩:=a.slot c ob q n hc hx
  obtain⟨sl',e2⟩:=b.slot c _ e1 (a.free c ob q n hx) hc hx
  exact⟨sl',e2⟩
 free:=fun c ob q n hx=>by
  obtain⟨o',e1⟩:=a.there c ob q hx
  exact b.free c o' e1 (a.free c ob q n hx) hx
 there:=fun c ob q hx=>by
  obtain⟨o',e1⟩:=a.there c ob q hx
  exact b.there c o' e1 hx
 tups:=fun c xs q=>b.tups c xs (a.tups c xs q)
 frzs:=fun c ob xs q=>b.frzs c ob xs (a.frzs c ob xs q)
 tbls:=fun c ps q=>by
  obtain⟨m1,e1⟩:=a.tbls c ps q
  obtain⟨m2,e2⟩:=b.tbls c _ e1
  exact⟨m1++m2,by rw[e2,Array.append_assoc]⟩
theorem Un.kept (k:∀b u,h.get? b=some u→h'.get? b=some u):Un fs ex H H h h':=
 ⟨fun b ob q _ _ _=>k b ob q,fun b ob q _ _ _=>⟨ob.slots,k b ob q⟩,fun _ _ _ n _=>n,fun b ob q _=>⟨ob,k b ob q⟩,fun _ _ q=>q,fun _ _ _ q=>q,fun _ ps q=>⟨#[],by rw[q];simp⟩⟩
theorem Un.refl:Un fs ex H H h h:=Un.kept fun _ _ q=>q
theorem Un.laid (k:∀b u,h.get? b=some u→h'.get? b=some u)(hp:h.objs.size≤a)(hn:H a=none):Un fs ex H (upd H a o) h h' where
 keep:=fun b u q _ _ _=>k b u q
 slot:=fun b u q _ _ _=>⟨u.slots,k b u q⟩
 free:=fun b u q n _=>by rw[zf (Nat.ne_of_lt (Nat.lt_of_lt_of_le (Heap.lt_size q) hp))];exact n
 there:=fun b u q _=>⟨u,k b u q⟩
 tups:=fun b xs q=>by rw[zf (zc q hn)];exact q
 frzs:=fun b u xs q=>by rw[zf (zc q hn)];exact q
 tbls:=fun b ps q=>⟨#[],by rw[zf (zc q hn),q];simp⟩
theorem Un.write (mu:Mut (H x))(he:e=x∨H e=some (.own x))(k:∀b u,b≠e→h.get? b=some u→h'.get? b=some u)(heo:∃u,h'.get? e=some u):Un fs ex H (upd H x o) h h':=by
 have hx:∀b,H b=none→b≠x:=fun b n z=>by subst z;rw[n] at mu;exact mu
 have hb:∀b,H b=none→b≠e:=fun b n z=>by
  subst z
  rcases he with r|r
  ·exact hx b n r
  ·rw[n] at r;cases r
 have hm:∀b u,H b=some u→¬Mut (some u)→b≠x:=fun b u q nm z=>by subst z;rw[q] at mu;exact nm mu
 refine⟨fun b u q n _ _=>k b u (hb b n) q,fun b u q n _ _=>⟨u.slots,k b u (hb b n) q⟩,fun b u q n _=>by rw[zf (hx b n)];exact n,fun b u q _=>?_,
  fun b xs q=>by rw[zf (hm b _ q fun z=>z)];exact q,fun b u xs q=>by rw[zf (hm b _ q fun z=>z)];exact q,fun b ps q=>⟨#[],by rw[zf (hm b _ q fun z=>z),q];simp⟩⟩
 by_cases hbe:b=e
 ·subst hbe;exact heo
 ·exact⟨u,k b u hbe q⟩
theorem Un.mono (u:Un fs ex H H1 h h1)(hs:∀b∈fs,b∈fs')(hx:∀b∈ex,b∈ex'):Un fs' ex' H H1 h h1:=
 ⟨fun b ob q n hb he=>u.keep b ob q n (fun z=>hb (hs b z)) fun z=>he (hx b z),fun _ _ q n _ he=>u.any q n fun z=>he (hx _ z),fun b ob q n he=>u.free b ob q n fun z=>he (hx b z),fun b ob q he=>u.there b ob q fun z=>he (hx b z),u.tups,u.frzs,u.tbls⟩
end
def trk (h:Heap)(H:Hp):List Addr:=(List.range h.objs.size).filter fun a=>(H a).isSome
def fE (h:Heap)(H:Hp):Heap:=PySem.W.hideAll h (trk h H)
theorem zcQ (h:Heap)(H:Hp):(fE h H).objs.size=h.objs.size:=PySem.W.hideAll_size _ _
theorem zel {h:Heap}{H:Hp}{b:Addr}{o:Obj}(e:h.get? b=some o)(n:H b=none):(fE h H).get? b=some o:=
 PySem.W.hideAll_get _ e fun hm=>by
  have q:(H b).isSome=true:=(List.mem_filter.mp hm).2
  rw[n] at q;simp at q
theorem zfg {h:Heap}{H:Hp}{b:Addr}{o:Obj}(e:(fE h H).get? b=some o):h.get? b=some o∧H b=none:=by
 have e':h.get? b=some o:=PySem.W.of_hideAll (trk h H) e
 refine⟨e',?_⟩
 cases q:H b with
 |none=>rfl
 |some x=>
  have hm:b∈trk h H:=List.mem_filter.mpr ⟨List.mem_range.mpr (Heap.lt_size e'),by simp[q]⟩
  have z:(fE h H).get? b=none:=PySem.W.hideAll_none (trk h H) hm
  rw[z] at e;cases e
def zfD (g h:Heap)(L:Addr):List (Addr×Obj):=(List.range h.objs.size).filterMap fun a=>if a=L∨(g.get? a).isSome=true then none else(h.get? a).map fun o=>(a,o)
def rest (g h:Heap)(L d:Addr):List (Addr×Obj):=(zfD g h L).filter fun p=>decide (p.1≠d)
end
section
structure Mod (K:PySem.W.Frag)(mg:Str→Option Value)(base:Heap):Prop where
 kin:K.In base
 glob:base.Ns mainGlobals mg
 blt:∃mb,base.Ns builtinsNs mb∧∀x:Str,x≠"__name__"→mb x=bootBuiltins x
 nolimit:base.NoLimit
structure Cx where
 prog:Program
 w:World
 K:PySem.W.Frag
 mg:Str→Option Value
 base:Heap
 A:Around
 N:List Str
 s₀:Shared
 H₀:Hp
 env:Env
 outer:List Env
 stack:List Env
 ex:List Addr
 fn:Str→Bool
 calm:Bool
 pn:List (Addr×Obj)
 xe:Value→Shared→Prop
def frs (l:List Env):List Addr:=l.filterMap (·.frame)
abbrev Cx.fs (X:Cx):List Addr:=frs X.outer
def Vis (sc:Scope)(x:Str):Prop:=sc.names.lookup x=some .local∨sc.names.lookup x=some .cell∨sc.names.lookup x=some .free
def Loc (sc:Scope)(x:Str):Prop:=sc.names.lookup x=some .local∨sc.names.lookup x=some .cell
def Look (env:Env)(h:Heap)(m:Str→Option Value)(x:Str)(u:Value):Prop:=
 (env.kindOf x=some .local∧m x=some u)∨((env.kindOf x=some .cell∨env.kindOf x=some .free)∧∃c,env.cells.lookup x=some c∧h.IsCell c (some u))
structure Cx.Ok (X:Cx):Prop where
 mod:Mod X.K X.mg X.base
 kind:X.env.scope.kind=.function
 glob:X.env.globals=mainGlobals
 blt:X.env.builtins=builtinsNs
 above:X.s₀.heap.objs.size≤X.env.locals
 inj:∀x y c,X.env.cells.lookup x=some c→X.env.cells.lookup y=some c→x=y
 has:∀x,(X.env.kindOf x=some .cell∨X.env.kindOf x=some .free)→∃c,X.env.cells.lookup x=some c
 cab:∀x c,X.fn x=true→X.env.cells.lookup x=some c→X.s₀.heap.objs.size≤c
 hd:X.calm=true→X.A.handled=none
 frames:X.A.frames=some X.stack
 stk:X.stack=X.outer∨(X.stack=X.env::X.outer∧X.env.frame=some X.env.locals)
 exf:∀b∈X.ex,b≠X.env.locals∧∀x c,X.env.cells.lookup x=some c→c≠b
 bs:∀b o,X.base.get? b=some o→X.s₀.heap.get? b=some o∧X.H₀ b=none
 bsz:X.base.objs.size≤X.s₀.heap.objs.size
 noex:∀b o,X.base.get? b=some o→b∉X.ex
 exfs:∀b∈X.ex,b∉X.fs
 funs:X.s₀.heap.FunFrames X.base X.outer
 frf:∀b∈X.fs,X.H₀ b=none
structure Inv (X:Cx)(pins:List (Addr×Obj))(σ:List (Option V))(H:Hp)(s:Shared):Prop where
 ok:X.Ok
 os:s.os=X.s₀.os
 bare:AllBare s.gens
 base:Un X.fs X.ex X.H₀ H X.s₀.heap s.heap
 loc:∃m,s.heap.Ns X.env.locals m∧∀(i:Nat) (x:Str) (v:V),X.N[i]?=some x→σ[i]?=some (some v)→Vis X.env.scope x→∃u,RelV v u∧Look X.env s.heap m x u
 cell:∀x c,X.env.cells.lookup x=some c→∃v,s.heap.IsCell c v
 free:H X.env.locals=none
 freeC:∀x c,X.env.cells.lookup x=some c→H c=none
 pin:∀p∈X.pn++pins,s.heap.get? p.1=some p.2∧H p.1=none∧p.1≠X.env.locals∧p.1∉X.fs∧∀v,p.2.data≠.cell v
 hok:HOk X.prog X.w H s.heap
 len:σ.length=X.N.length
section
variable {X:Cx}{pins:List (Addr×Obj)}{σ:List (Option V)}{H H':Hp}{s:Shared}{h':Heap}
theorem Cx.Ok.nofr (ok:X.Ok){b:Addr}{o:Obj}(e:X.base.get? b=some o):b∉X.fs:=fun hb=>by
 have:=(ok.funs.mem hb).1
 rw[e] at this;cases this
theorem Inv.bs (I:Inv X pins σ H s):∀b o,X.base.get? b=some o→s.heap.get? b=some o∧H b=none:=fun b o e=>
 ⟨I.base.keep b o (I.ok.bs b o e).1 (I.ok.bs b o e).2 (I.ok.nofr e) (I.ok.noex b o e),I.base.free b o (I.ok.bs b o e).1 (I.ok.bs b o e).2 (I.ok.noex b o e)⟩
theorem Inv.bk (I:Inv X pins σ H s):∀b o,X.base.get? b=some o→s.heap.get? b=some o:=fun b o e=>(I.bs b o e).1
theorem Inv.mod (I:Inv X pins σ H s):Mod X.K X.mg X.base:=I.ok.mod
theorem Inv.kIn (I:Inv X pins σ H s):X.K.In s.heap:=I.ok.mod.kin.keeps I.bk
theorem Inv.nolimit (I:Inv X pins σ H s):s.heap.NoLimit:=I.ok.mod.nolimit.keeps I.bk
theorem Inv.fr (I:Inv X pins σ H s):∃m,Fr X.base X.env.locals s.heap m:=
 let ⟨m,hn,_⟩:=I.loc
 ⟨m,hn,I.bk,Nat.le_trans I.ok.bsz I.ok.above⟩
theorem Inv.lt (I:Inv X pins σ H s):X.env.locals<s.heap.objs.size:=let ⟨_,hn,_⟩:=I.loc;hn.lt
theorem Inv.sz (I:Inv X pins σ H s):X.s₀.heap.objs.size≤s.heap.objs.size:=Nat.le_trans I.ok.above (Nat.le_of_lt I.lt)
theorem Inv.nofs (I:Inv X pins σ H s){a:Addr}(h:s.heap.objs.size≤a):a∉X.fs:=fun hb=>by
 obtain⟨_,o,ho,_⟩:=I.ok.funs.mem hb
 exact absurd (Nat.lt_of_lt_of_le (Heap.lt_size ho) (Nat.le_trans I.sz h)) (Nat.lt_irrefl _)
theorem Inv.cne (I:Inv X pins σ H s):∀x c,X.env.cells.lookup x=some c→c≠X.env.locals:=fun x c e z=>by
 obtain⟨v,o,ho,hd⟩:=I.cell x c e
 obtain⟨m,⟨o',es,ep,ho',hd',_⟩,_⟩:=I.loc
 rw[z,ho'] at ho;cases ho;rw[hd'] at hd;cases hd
theorem Inv.funs (I:Inv X pins σ H s):s.heap.FunFrames X.base X.outer:=by
 have all:∀(l:List Env),(∀b∈frs l,b∈X.fs)→X.s₀.heap.FunFrames X.base l→s.heap.FunFrames X.base l:=by
  intro l
  induction l with
  |nil=>intro _ _;trivial
  |cons env r ih=>
   intro hs hl
   obtain⟨hk,⟨L,o,hf,hn,ho,hd⟩,hr⟩:=hl
   have hL:L∈X.fs:=hs L (by unfold frs;rw[List.filterMap_cons,hf];exact List.mem_cons_self)
   obtain⟨sl,e⟩:=I.base.slot L o ho (I.ok.frf L hL) hL fun z=>I.ok.exfs L z hL
   exact⟨hk,⟨L,_,hf,hn,e,hd⟩,ih (fun b hb=>hs b (by unfold frs;rw[List.filterMap_cons,hf];exact List.mem_cons_of_mem _ hb)) hr⟩
 exact all X.outer (fun _ hb=>hb) I.ok.funs
theorem Inv.stack (I:Inv X pins σ H s):s.heap.FunFrames X.base X.stack:=by
 rcases I.ok.stk with e|⟨e,hf⟩
 ·rw[e];exact I.funs
 ·rw[e]
  obtain⟨m,hn,_⟩:=I.loc
  refine .cons (by rw[I.ok.kind];decide) hf hn ?_ I.funs
  exact Heap.get?_none_of_le (Nat.le_trans I.ok.bsz I.ok.above)
theorem Inv.stkSub (I:Inv X pins σ H s):∀b∈frs X.stack,b∈X.env.locals::X.fs:=fun b hb=>by
 rcases I.ok.stk with e|⟨e,hf⟩
 ·rw[e] at hb;exact List.mem_cons_of_mem _ hb
 ·rw[e] at hb
  unfold frs at hb
  rw[List.filterMap_cons,hf] at hb
  exact hb
theorem Inv.stkFree (I:Inv X pins σ H s):∀b∈frs X.stack,H b=none:=fun b hb=>by
 rcases List.mem_cons.mp (I.stkSub b hb) with e|hb
 ·rw[e];exact I.free
 ·obtain⟨_,o,ho,_⟩:=I.ok.funs.mem hb
  exact I.base.free b o ho (I.ok.frf b hb) fun z=>I.ok.exfs b z hb
theorem Inv.step {g':Array GenState}{t':Nat}{d':Drawn}{ch:List Addr}(I:Inv X pins σ H s)
 (hch:∀b∈ch,(b∈X.ex∨X.s₀.heap.objs.size≤b)∧b≠X.env.locals∧(∀x c,X.env.cells.lookup x=some c→c≠b)∧∀p∈X.pn++pins,p.1≠b)
 (keep:∀b o,b≠X.env.locals→b∉X.fs→b∉ch→s.heap.get? b=some o→H b=none→h'.get? b=some o)
 (slot:∀b o,b≠X.env.locals→b∈X.fs→b∉ch→s.heap.get? b=some o→H b=none→∃sl,h'.get? b=some { o with slots:=sl }) (free:∀b o,b∉ch→s.heap.get? b=some o→H b=none→H' b=none)
 (there:∀b o,b∉ch→s.heap.get? b=some o→∃o',h'.get? b=some o')
 (tups:∀b xs,H b=some (.tup xs)→H' b=some (.tup xs)) (frzs:∀b o u,H b=some (.frz o u)→H' b=some (.frz o u)) (tbls:∀b ps,H b=some (.tbl ps)→∃more,H' b=some (.tbl (ps++more)))
 (ns:∀m,s.heap.Ns X.env.locals m→h'.Ns X.env.locals m) (hok:HOk X.prog X.w H' h') (hg:AllBare g') :
 Inv X pins σ H' { s with heap:=h',gens:=g',drawn:=d',toks:=t' }:=by
 have neL:∀b o,X.s₀.heap.get? b=some o→b≠X.env.locals:=fun b o e=>Nat.ne_of_lt (Nat.lt_of_lt_of_le (Heap.lt_size e) I.ok.above)
 have neC:∀b o,X.s₀.heap.get? b=some o→b∉X.ex→b∉ch:=fun b o e hx hb=>by
  rcases(hch b hb).1 with z|z
  ·exact hx z
  ·exact absurd (Nat.lt_of_lt_of_le (Heap.lt_size e) z) (Nat.lt_irrefl _)
 have cellK:∀x c,X.env.cells.lookup x=some c→∀v,s.heap.IsCell c v→h'.IsCell c v:=fun x c e v ⟨o,ho,hd⟩=>by
  have nch:c∉ch:=fun z=>(hch c z).2.2.1 x c e rfl
  by_cases hc:c∈X.fs
  ·obtain⟨sl,q⟩:=slot c o (I.cne x c e) hc nch ho (I.freeC x c e)
   exact⟨_,q,hd⟩
  ·exact⟨o,keep c o (I.cne x c e) hc nch ho (I.freeC x c e),hd⟩
 refine⟨I.ok,I.os,hg,⟨fun b o e n hb hx=>?_,fun b o e n hb hx=>?_,fun b o e n hx=>?_,fun b o e hx=>?_,fun b xs e=>tups b xs (I.base.tups b xs e),fun b o xs e=>frzs b o xs (I.base.frzs b o xs e),fun b ps e=>?_⟩,?_,fun x c e=>?_,?_,fun x c e=>?_,fun p hp=>?_,hok,I.len⟩
 ·exact keep b o (neL b o e) hb (neC b o e hx) (I.base.keep b o e n hb hx) (I.base.free b o e n hx)
 ·obtain⟨sl,e1⟩:=I.base.slot b o e n hb hx
  obtain⟨sl',e2⟩:=slot b _ (neL b o e) hb (neC b o e hx) e1 (I.base.free b o e n hx)
  exact⟨sl',e2⟩
 ·obtain⟨o',e1⟩:=I.base.there b o e hx
  exact free b o' (neC b o e hx) e1 (I.base.free b o e n hx)
 ·obtain⟨o',e1⟩:=I.base.there b o e hx
  exact there b o' (neC b o e hx) e1
 ·obtain⟨m1,e1⟩:=I.base.tbls b ps e
  obtain⟨m2,e2⟩:=tbls b _ e1
  exact⟨m1++m2,by rw[e2,Array.append_assoc]⟩
 ·obtain⟨m,hn,hl⟩:=I.loc
  refine⟨m,ns m hn,fun i x v e1 e2 e3=>?_⟩
  obtain⟨u,r,l⟩:=hl i x v e1 e2 e3
  refine⟨u,r,?_⟩
  rcases l with l|⟨k,c,e,z⟩
  ·exact .inl l
  ·exact .inr ⟨k,c,e,cellK x c e _ z⟩
 ·obtain⟨v,z⟩:=I.cell x c e
  exact⟨v,cellK x c e v z⟩
 ·obtain⟨m,⟨o,_,_,ho,_⟩,_⟩:=I.loc
  exact free _ o (fun z=>(hch _ z).2.1 rfl) ho I.free
 ·obtain⟨v,o,ho,hd⟩:=I.cell x c e
  exact free c o (fun z=>(hch c z).2.2.1 x c e rfl) ho (I.freeC x c e)
 ·obtain⟨e,n,ne,nf,d⟩:=I.pin p hp
  have nch:p.1∉ch:=fun z=>(hch p.1 z).2.2.2 p hp rfl
  exact⟨keep p.1 p.2 ne nf nch e n,free p.1 p.2 nch e n,ne,nf,d⟩
theorem Inv.un {t':Nat}(I:Inv X pins σ H s)(u:Un X.fs [] H H' s.heap h')(hok:HOk X.prog X.w H' h'):Inv X pins σ H' { s with heap:=h',toks:=t' }:=by
 obtain⟨m,⟨o,es,ep,ho,r⟩,_⟩:=id I.loc
 obtain⟨sl,hL⟩:=u.any ho I.free (by simp)
 exact I.step (g':=s.gens) (d':=s.drawn) (ch:=[]) (fun _ z=>nomatch z) (fun b o _ hb _ e n=>u.keep b o e n hb (by simp)) (fun b o _ hb _ e n=>u.slot b o e n hb (by simp)) (fun b o _ e n=>u.free b o e n (by simp)) (fun b o _ e=>u.there b o e (by simp)) u.tups u.frzs u.tbls (fun m' hm=>by
  obtain⟨o',es',ep',ho',r'⟩:=hm
  rw[ho] at ho';cases ho'
  exact⟨_,es',ep',hL,r'⟩) hok I.bare
theorem Inv.call {g':Array GenState}{t':Nat}{d':Drawn}{ch:List Addr}(I:Inv X pins σ H s)(u:Un (frs X.stack) ch H H' s.heap h')(hok:HOk X.prog X.w H' h')(hg:AllBare g')
 (hch:∀b∈ch,(b∈X.ex∨X.s₀.heap.objs.size≤b)∧b≠X.env.locals∧(∀x c,X.env.cells.lookup x=some c→c≠b)∧∀p∈X.pn++pins,p.1≠b) :
 Inv X pins σ H' { s with heap:=h',gens:=g',drawn:=d',toks:=t' }:=by
 obtain⟨m,⟨o,es,ep,ho,r⟩,_⟩:=id I.loc
 obtain⟨sl,hL⟩:=u.any ho I.free fun z=>(hch _ z).2.1 rfl
 exact I.step (ch:=ch) hch (fun b o hL hb hc e n=>u.keep b o e n (fun z=>(List.mem_cons.mp (I.stkSub b z)).elim hL hb) hc) (fun b o _ _ hc e n=>u.any e n hc) (fun b o hc e n=>u.free b o e n hc) (fun b o hc e=>u.there b o e hc) u.tups u.frzs u.tbls (fun m' hm=>by
  obtain⟨o',es',ep',ho',r'⟩:=hm
  rw[ho] at ho';cases ho'
  exact⟨_,es',ep',hL,r'⟩) hok hg
theorem Inv.turned {t':Nat}{it:Addr}(I:Inv X pins σ H s)(k:∀b o,b≠it→s.heap.get? b=some o→h'.get? b=some o)(hn:H it=none)(hL:it≠X.env.locals)
 (h1:it∈X.ex∨X.s₀.heap.objs.size≤it) (h2:∀x c,X.env.cells.lookup x=some c→c≠it) (h3:∀p∈X.pn++pins,p.1≠it):Inv X pins σ H { s with heap:=h',toks:=t' }:=by
 have nit:∀b u,H b=some u→b≠it:=fun b u e z=>by rw[z,hn] at e;cases e
 refine I.step (g':=s.gens) (d':=s.drawn) (ch:=[it]) (fun b hb=>?_) (fun b o _ _ hc e _=>k b o (fun z=>hc (by simp[z])) e) (fun b o _ _ hc e _=>⟨o.slots,k b o (fun z=>hc (by simp[z])) e⟩) (fun _ _ _ _ n=>n)
  (fun b o hc e=>⟨o,k b o (fun z=>hc (by simp[z])) e⟩) (fun _ _ e=>e) (fun _ _ _ e=>e) (fun b ps e=>⟨#[],by rw[e];simp⟩) (fun m hm=>?_) (fun b u e=>?_) I.bare
 ·have e:b=it:=by simpa using hb
  subst e
  exact⟨h1,hL,h2,h3⟩
 ·obtain⟨o,es,ep,ho,r⟩:=hm
  exact⟨o,es,ep,k _ o (Ne.symm hL) ho,r⟩
 ·refine(I.hok b u e).stay (fun c v hc q=>k c v ?_ q) (fun _ q=>q) fun _ _ q=>q
  rcases hc with z|z
  ·rw[z];exact nit b u e
  ·exact nit c _ z
theorem Inv.tok (I:Inv X pins σ H s)(t:Nat):Inv X pins σ H { s with toks:=t }:=I.un (h':=s.heap) (t':=t) Un.refl I.hok
theorem Inv.kept {t':Nat}(I:Inv X pins σ H s)(k:∀b u,s.heap.get? b=some u→h'.get? b=some u):Inv X pins σ H { s with heap:=h',toks:=t' }:=I.un (Un.kept k) (I.hok.kept k)
theorem Inv.laid {a:Addr}{o:HO}{t':Nat}(I:Inv X pins σ H s)(k:∀b u,s.heap.get? b=some u→h'.get? b=some u)(hp:s.heap.objs.size≤a)(new:ObjOk X.prog X.w (upd H a o) h' a o) :
 Inv X pins σ (upd H a o) { s with heap:=h',toks:=t' }:=I.un (Un.laid k hp (I.hok.fresh hp)) (I.hok.laid k hp new)
theorem Inv.write {x e:Addr}{o:HO}{t':Nat}(I:Inv X pins σ H s)(mu:Mut (H x))(he:e=x∨H e=some (.own x))(k:∀b u,b≠e→s.heap.get? b=some u→h'.get? b=some u)(heo:∃u,h'.get? e=some u)
 (new:ObjOk X.prog X.w (upd H x o) h' x o):Inv X pins σ (upd H x o) { s with heap:=h',toks:=t' }:=I.un (Un.write mu he k heo) (I.hok.write mu he k heo new)
theorem Inv.pins_of {pins':List (Addr×Obj)}(I:Inv X pins σ H s)(h:∀p∈pins',s.heap.get? p.1=some p.2∧H p.1=none∧p.1≠X.env.locals∧p.1∉X.fs∧∀v,p.2.data≠.cell v):Inv X pins' σ H s:=
 ⟨I.ok,I.os,I.bare,I.base,I.loc,I.cell,I.free,I.freeC,fun p hp=>(List.mem_append.mp hp).elim (fun z=>I.pin p (List.mem_append_left _ z)) (h p),I.hok,I.len⟩
theorem gE {N:List Str}(hN:N.Nodup){i j:Nat}{x:Str}(a:N[i]?=some x)(b:N[j]?=some x):i=j:=by
 obtain⟨h1,e1⟩:=List.getElem?_eq_some_iff.mp a
 obtain⟨h2,e2⟩:=List.getElem?_eq_some_iff.mp b
 exact(List.getElem_inj hN).mp (e1.trans e2.symm)
theorem xq {M:Model}{A:Around}{E:Value→Shared→Prop}{i:Nat}{x:Str}{v:V}{u:Value}{Q:Unit→Shared→Prop}(I:Inv X pins σ H s)(hN:X.N.Nodup)(hi:X.N[i]?=some x)(hx:Loc X.env.scope x)(r:RelV v u)
 (h:∀s',Inv X pins (σ.set i (some v)) H s'→(∃a,Heap.SameBut a s.heap s'.heap∧(a=X.env.locals∨X.env.cells.lookup x=some a))→Q () s') (hf:X.fn x=true∨X.env.scope.names.lookup x=some .local:=by first|exact .inl rfl|exact .inr rfl|assumption):wpAny M A (storeName X.env x u) Q E s:=by
 obtain⟨m,hn,hl⟩:=id I.loc
 have hcls:(X.env.scope.kind==.class||(X.env.scope.kind==.module&&X.env.locals != X.env.globals))=false:=by rw[I.ok.kind];rfl
 have hiσ:i<σ.length:=by rw[I.len];exact(List.getElem?_eq_some_iff.mp hi).1
 have cne:=I.cne
 have tracked:∀{a:Addr}{h':Heap},(∃o,s.heap.get? a=some o∧H a=none)→Heap.SameBut a s.heap h'→HOk X.prog X.w H h':=fun {a h'} ha hs b ob e=>by
  obtain⟨_,_,hfree⟩:=ha
  refine(I.hok b ob e).stay (fun c w' hc q=>(hs.2 c ?_).trans q) (fun _ q=>q) fun _ _ q=>q
  rintro rfl
  rcases hc with rfl|hc
  ·rw[hfree] at e;cases e
  ·rw[hfree] at hc;cases hc
 rcases hx with hk|hk
 ·refine wpAny_storeName_local hk hn (fun h' hn' hs=>?_) hcls
  obtain⟨oL,_,_,hoL,_⟩:=id hn
  refine h _ ⟨I.ok,I.os,I.bare,⟨fun b o e n hb hx=>?_,fun b o e n hb hx=>?_,I.base.free,fun b o e hx=>?_,I.base.tups,I.base.frzs,I.base.tbls⟩,⟨_,hn',fun j y v' e1 e2 e3=>?_⟩,fun y c e=>?_,I.free,I.freeC,fun p hp=>?_,tracked ⟨oL,hoL,I.free⟩ hs,by simpa using I.len⟩ ⟨_,hs,.inl rfl⟩
  ·exact(hs.2 b (Nat.ne_of_lt (Nat.lt_of_lt_of_le (Heap.lt_size e) I.ok.above))).trans (I.base.keep b o e n hb hx)
  ·obtain⟨sl,e1⟩:=I.base.slot b o e n hb hx
   exact⟨sl,(hs.2 b (Nat.ne_of_lt (Nat.lt_of_lt_of_le (Heap.lt_size e) I.ok.above))).trans e1⟩
  ·obtain⟨o',e1⟩:=I.base.there b o e hx
   exact⟨o',(hs.2 b (Nat.ne_of_lt (Nat.lt_of_lt_of_le (Heap.lt_size e) I.ok.above))).trans e1⟩
  ·by_cases hj:j=i
   ·subst hj
    rw[hi] at e1;cases e1
    rw[List.getElem?_set_self hiσ] at e2
    cases e2
    exact⟨u,r,.inl ⟨hk,by simp⟩⟩
   ·rw[List.getElem?_set_ne (Ne.symm hj)] at e2
    obtain⟨u',r',q⟩:=hl j y v' e1 e2 e3
    refine⟨u',r',?_⟩
    rcases q with⟨k,e⟩|⟨k,c,e,z⟩
    ·refine .inl ⟨k,?_⟩
     have:y≠x:=fun e=>hj (gE hN e1 (e▸hi))
     simp[this,e]
    ·exact .inr ⟨k,c,e,z.sameBut hs (cne y c e)⟩
  ·obtain⟨w',z⟩:=I.cell y c e
   exact⟨w',z.sameBut hs (cne y c e)⟩
  ·obtain⟨e,n,ne,nf,d⟩:=I.pin p hp
   exact⟨(hs.2 p.1 ne).trans e,n,ne,nf,d⟩
 ·have hfn:X.fn x=true:=by
   rcases hf with z|z
   ·exact z
   ·rw[z] at hk;cases hk
  obtain⟨c,hc⟩:=I.ok.has x (.inl hk)
  obtain⟨w',z⟩:=I.cell x c hc
  refine wpAny_storeName_cell I.ok.kind hk hc z (fun h' hc' hs=>?_)
  obtain⟨oc,hoc,hocd⟩:=id z
  refine h { s with heap:=h' } ⟨I.ok,I.os,I.bare,⟨fun b o e n hb hx=>?_,fun b o e n hb hx=>?_,I.base.free,fun b o e hx=>?_,I.base.tups,I.base.frzs,I.base.tbls⟩,⟨m,hn.sameBut hs (Ne.symm (cne x c hc)),fun j y v' e1 e2 e3=>?_⟩,fun y c' e=>?_,I.free,I.freeC,fun p hp=>?_,tracked ⟨oc,hoc,I.freeC x c hc⟩ hs,by simpa using I.len⟩ ⟨c,hs,.inr hc⟩
  ·exact(hs.2 b (Nat.ne_of_lt (Nat.lt_of_lt_of_le (Heap.lt_size e) (I.ok.cab x c hfn hc)))).trans (I.base.keep b o e n hb hx)
  ·obtain⟨sl,e1⟩:=I.base.slot b o e n hb hx
   exact⟨sl,(hs.2 b (Nat.ne_of_lt (Nat.lt_of_lt_of_le (Heap.lt_size e) (I.ok.cab x c hfn hc)))).trans e1⟩
  ·obtain⟨o',e1⟩:=I.base.there b o e hx
   exact⟨o',(hs.2 b (Nat.ne_of_lt (Nat.lt_of_lt_of_le (Heap.lt_size e) (I.ok.cab x c hfn hc)))).trans e1⟩
  ·by_cases hj:j=i
   ·subst hj
    rw[hi] at e1;cases e1
    rw[List.getElem?_set_self hiσ] at e2
    cases e2
    exact⟨u,r,.inr ⟨.inl hk,c,hc,hc'⟩⟩
   ·rw[List.getElem?_set_ne (Ne.symm hj)] at e2
    obtain⟨u',r',q⟩:=hl j y v' e1 e2 e3
    refine⟨u',r',?_⟩
    rcases q with q|⟨k,c',e,z'⟩
    ·exact .inl q
    ·refine .inr ⟨k,c',e,z'.sameBut hs ?_⟩
     rintro rfl
     exact hj (gE hN e1 (I.ok.inj _ _ _ e hc▸hi))
  ·by_cases hcc:c'=c
   ·subst hcc;exact⟨_,hc'⟩
   ·obtain⟨w2,z2⟩:=I.cell y c' e
    exact⟨w2,z2.sameBut hs hcc⟩
  ·obtain⟨e,n,ne,nf,d⟩:=I.pin p hp
   refine⟨(hs.2 p.1 ?_).trans e,n,ne,nf,d⟩
   intro q
   rw[q,hoc] at e
   have q':oc=p.2:=Option.some.inj e
   exact d w' (by rw[←q'];exact hocd)
theorem wG {M:Model}{A:Around}{E:Value→Shared→Prop}{i:Nat}{x:Str}{v:V}{u:Value}{Q:Unit→Shared→Prop}(I:Inv X pins σ H s)(hN:X.N.Nodup)(hi:X.N[i]?=some x)(hx:Loc X.env.scope x)(r:RelV v u)
 (h:∀s',Inv X pins (σ.set i (some v)) H s'→Q () s') (hf:X.fn x=true∨X.env.scope.names.lookup x=some .local:=by first|exact .inl rfl|exact .inr rfl|assumption):wpAny M A (storeName X.env x u) Q E s:=
 xq I hN hi hx r (fun s' I' _=>h s' I') hf
theorem Inv.call' {s':Shared}{ch:List Addr}(I:Inv X pins σ H s)(ho:s'.os=s.os)(u:Un (frs X.stack) ch H H' s.heap s'.heap)(hok:HOk X.prog X.w H' s'.heap)(hg:AllBare s'.gens)
 (hch:∀b∈ch,(b∈X.ex∨X.s₀.heap.objs.size≤b)∧b≠X.env.locals∧(∀x c,X.env.cells.lookup x=some c→c≠b)∧∀p∈X.pn++pins,p.1≠b):Inv X pins σ H' s':=by
 obtain⟨h',g',d',t',o'⟩:=s'
 have e:o'=s.os:=ho
 subst e
 exact I.call (g':=g') (t':=t') (d':=d') u hok hg hch
end
abbrev XK:=Value→Option Addr→Hp→Prop
abbrev St:=List (Option V)
abbrev VK:=V→Hp→Prop
abbrev TE:=St→Hp→VK→Prop
abbrev TT:=St→Hp→(Bool→Hp→Prop)→Prop
abbrev TA:=St→Hp→(List V→Hp→Prop)→Prop
structure Ends where
 nx:St→Hp→Prop
 rt:VK
 bk:St→Hp→Prop:=fun _ _=>False
 ct:St→Hp→Prop:=fun _ _=>False
abbrev TS:=Ends→St→Hp→Prop
def EP (X:Cx)(pins:List (Addr×Obj))(σ:St)(Q:VK)(u:Value)(s':Shared):Prop:=∃v H',Inv X pins σ H' s'∧RelV v u∧Q v H'
def TP (X:Cx)(pins:List (Addr×Obj))(σ:St)(Q:Bool→Hp→Prop)(b:Bool)(s':Shared):Prop:=∃H',Inv X pins σ H' s'∧Q b H'
def AP (X:Cx)(pins:List (Addr×Obj))(σ:St)(Q:List V→Hp→Prop)(us:List Value)(s':Shared):Prop:=∃vs H',Inv X pins σ H' s'∧Vals vs us∧Q vs H'
def SP (X:Cx)(pins:List (Addr×Obj))(D:Ends)(f:Flow)(s':Shared):Prop:=
 match f with
 | .next=>∃σ' H',Inv X pins σ' H' s'∧D.nx σ' H'
 | .brk=>∃σ' H',Inv X pins σ' H' s'∧D.bk σ' H'
 | .cont=>∃σ' H',Inv X pins σ' H' s'∧D.ct σ' H'
 | .ret u=>∃v σ' H',Inv X pins σ' H' s'∧RelV v u∧D.rt v H'
def PE (X:Cx)(e:Expr)(t:TE):Prop:=
 ∀(pins:List (Addr×Obj)) (s:Shared) (σ:St) (H:Hp) (Q:VK),Inv X pins σ H s→t σ H Q→wpAny (model X.prog X.w) X.A (eval e X.env) (EP X pins σ Q) X.xe s
def PT (X:Cx)(e:Expr)(t:TT):Prop:=
 ∀(pins:List (Addr×Obj)) (s:Shared) (σ:St) (H:Hp) (Q:Bool→Hp→Prop),Inv X pins σ H s→t σ H Q→wpAny (model X.prog X.w) X.A (isTrue e X.env (eval e X.env)) (TP X pins σ Q) X.xe s
def PW (X:Cx)(e:Expr)(t:TT):Prop:=
 ∀(whole:Sem Value) (pins:List (Addr×Obj)) (s:Shared) (σ:St) (H:Hp) (Q:Bool→Hp→Prop),Inv X pins σ H s→t σ H Q→wpAny (model X.prog X.w) X.A (isTrue e X.env whole) (TP X pins σ Q) X.xe s
theorem PW.pt {X:Cx}{e:Expr}{t:TT}(h:PW X e t):PT X e t:=h _
def PA (X:Cx)(es:List Expr)(t:TA):Prop:=
 ∀(pos:Pos) (pins:List (Addr×Obj)) (s:Shared) (σ:St) (H:Hp) (Q:List V→Hp→Prop),Inv X pins σ H s→t σ H Q→wpAny (model X.prog X.w) X.A (spliced (backTo pos (starEach es X.env))) (AP X pins σ Q) X.xe s
def PS (X:Cx)(st:Stmt)(t:TS):Prop:=
 ∀(pins:List (Addr×Obj)) (s:Shared) (σ:St) (H:Hp) (D:Ends),Inv X pins σ H s→t D σ H→wpAny (model X.prog X.w) X.A (exec st X.env) (SP X pins D) X.xe s
def PSs (X:Cx)(st:List Stmt)(t:TS):Prop:=
 ∀(pins:List (Addr×Obj)) (s:Shared) (σ:St) (H:Hp) (D:Ends),Inv X pins σ H s→t D σ H→wpAny (model X.prog X.w) X.A (execs st X.env) (SP X pins D) X.xe s
theorem thn {α:Type}{t:Sem α}{Q Q':α→Shared→Prop}{M:Model}{A:Around}{E:Value→Shared→Prop}{s:Shared}(h:wpAny M A t Q E s)(hQ:∀a s,Q a s→Q' a s):wpAny M A t Q' E s:=wpAny_mono h hQ fun _ _ x=>x
end
section
section
variable {X:Cx}
def zf7 (i:Nat):TE:=fun σ H Q=>∃v,σ[i]?=some (some v)∧Q v H
def tC (v:V):TE:=fun _ H Q=>Q v H
theorem zdM {i:Nat}{x:Str}{pos:Pos}(hN:X.N[i]?=some x)(hv:Vis X.env.scope x)(hd:(x==("__debug__":Str))=false:=by decide)(hcd:(x==("__classdict__":Str))=false:=by decide):PE X (.Name x pos) (zf7 i):=by
 intro pins s σ H Q I h
 obtain⟨v,e,h⟩:=h
 obtain⟨m,hn,hl⟩:=I.loc
 obtain⟨u,r,l⟩:=hl i x v hN e hv
 have fin:EP X pins σ Q u s:=⟨v,H,I,r,h⟩
 rcases l with⟨hk,hm⟩|⟨hk,c,hc,hcell⟩
 ·exact wpAny_Name (wpAny_loadName_local I.ok.kind hk hn hm fin) hd
 ·rcases hk with hk|hk
  ·exact wpAny_Name (wpAny_loadName_cell I.ok.kind hk hc hcell fin) hd
  ·exact wpAny_Name (wpAny_loadName_free I.ok.kind hk hc hcell fin hcd) hd
theorem zg {i j pos}:PE X (.Constant (.int i) j pos) (tC (.int i)):=fun _ _ _ H _ I h=>wpAny_Constant_int ⟨.int i,H,I.tok _,⟨_,rfl⟩,h⟩
theorem yF {b j pos}:PE X (.Constant (.bool b) j pos) (tC (.bl b)):=fun _ _ _ H _ I h=>Constant_bool ⟨.bl b,H,I,rfl,h⟩
theorem wc {j pos}:PE X (.Constant .none j pos) (tC .non):=fun _ _ _ H _ I h=>Constant_none ⟨.non,H,I,rfl,h⟩
theorem zj {x j pos}:PE X (.Constant (.str x) j pos) (tC (.str x)):=fun _ _ _ H _ I h=>Calls.Constant_str ⟨.str x,H,I.tok _,⟨_,rfl⟩,h⟩
def Gl (X:Cx)(x:Str):Prop:=X.env.kindOf x=some .globalImplicit
theorem xy {E:Value→Shared→Prop}{pins:List (Addr×Obj)}{s:Shared}{σ:St}{H:Hp}{x:Str}{u:Value}{pos:Pos}{Q:Value→Shared→Prop}(I:Inv X pins σ H s)(hg:Gl X x)(hm:X.mg x=some u)(h:Q u s)
 (hd:(x==("__debug__":Str))=false:=by decide):wpAny (model X.prog X.w) X.A (eval (.Name x pos) X.env) Q E s:=
 Calls.Name_function_global I.ok.kind hg (Calls.loadGlobal_global (by rw[I.ok.glob];exact I.mod.glob.keeps I.bk) hm h) hd
theorem we {E:Value→Shared→Prop}{pins:List (Addr×Obj)}{s:Shared}{σ:St}{H:Hp}{x:Str}{u:Value}{pos:Pos}{Q:Value→Shared→Prop}(I:Inv X pins σ H s)(hg:Gl X x)(hm:X.mg x=none)(hv:bootBuiltins x=some u)(h:Q u s)
 (hn:x≠"__name__":=by decide) (hd:(x==("__debug__":Str))=false:=by decide):wpAny (model X.prog X.w) X.A (eval (.Name x pos) X.env) Q E s:=by
 obtain⟨mb,h1,h2⟩:=I.mod.blt
 exact Calls.Name_function_global I.ok.kind hg (Calls.loadGlobal_builtin (by rw[I.ok.glob];exact I.mod.glob.keeps I.bk) hm (by rw[I.ok.blt];exact h1.keeps I.bk) ((h2 x hn).trans hv) h) hd
theorem zK {x:Str}{v:V}{u:Value}{pos:Pos}(hg:Gl X x)(hm:X.mg x=some u)(r:RelV v u)(hd:(x==("__debug__":Str))=false:=by decide):PE X (.Name x pos) (tC v):=
 fun _ _ _ H _ I h=>xy I hg hm ⟨v,H,I,r,h⟩ hd
theorem ze6 {x:Str}{v:V}{u:Value}{pos:Pos}(hg:Gl X x)(hm:X.mg x=none)(hv:bootBuiltins x=some u)(r:RelV v u)(hn:x≠"__name__":=by decide)(hd:(x==("__debug__":Str))=false:=by decide):PE X (.Name x pos) (tC v):=
 fun _ _ _ H _ I h=>we I hg hm hv ⟨v,H,I,r,h⟩ hn hd
variable {a b:Expr}{ta tb:TE}{pos:Pos}
def PC (X:Cx)(op:CmpOp)(a b:Expr)(t:TE):Prop:=
 ∀(pins:List (Addr×Obj)) (s:Shared) (σ:St) (H:Hp) (Q:VK),Inv X pins σ H s→t σ H Q→
  wpAny (model X.prog X.w) X.A (eval a X.env) (fun v s₁=>wpAny (model X.prog X.w) X.A (eval b X.env) (fun u s₂=>wpAny (model X.prog X.w) X.A (compareOp op v u) (EP X pins σ Q) X.xe s₂) X.xe s₁) X.xe s
def tB (t:TE):TT:=fun σ H Q=>t σ H fun x H1=>∃c,x=.bl c∧Q c H1
theorem zdG {op:CmpOp}{t:TE}(h:PC X op a b t)(h1:behindInMarks op b=false:=by first|exact nobehind _ (by decide) (by decide)|rfl):PT X (.Compare a [op] [b] pos) (tB t):=by
 intro pins s σ H Q I hw
 refine wpAny_isTrue_Compare1 (thn (h pins s σ H _ I hw) fun v s1 h1=>thn h1 fun u s2 h2=>thn h2 fun c s3 ⟨x,H1,I1,r1,q1⟩=>?_) h1
 obtain⟨d,rfl,q⟩:=q1
 cases r1
 exact wpAny_truthy_bool ⟨H1,I1,q⟩
theorem gi {e:Expr}{t:TE}(h:PE X e t)(he:∀whole,isTrue e X.env whole=(do let v ←whole;standAt e.pos;holding [v] (truthy v)):=by intro _;rfl):PT X e (tB t):=by
 intro pins s σ H Q I hw
 refine isTrue_plain (thn (h pins s σ H _ I hw) fun v s1 ⟨x,H1,I1,r1,q1⟩=>?_) (he _)
 obtain⟨d,rfl,q⟩:=q1
 cases r1
 exact wpAny_truthy_bool ⟨H1,I1,q⟩
variable {tA tB':TT}{rest:List Expr}
def zh7 (t u:TT):TT:=fun σ H Q=>t σ H fun c H1=>if c=true then u σ H1 Q else Q false H1
def tOr (t u:TT):TT:=fun σ H Q=>t σ H fun c H1=>if c=true then Q true H1 else u σ H1 Q
def zhZ (t:TT):TT:=fun σ H Q=>t σ H fun c H1=>Q (!c) H1
theorem zbM (ha:PT X a tA):PW X (.BoolOp .And [a] pos) tA:=by
 intro wh pins s σ H Q I h
 refine isTrue_and (thn (ha pins s σ H Q I h) fun c s1 e=>?_)
 cases c with
 |true=>exact isTrue_and_nil e
 |false=>exact e
theorem yl (ha:PT X a tA):PW X (.BoolOp .Or [a] pos) tA:=by
 intro wh pins s σ H Q I h
 refine isTrue_or (thn (ha pins s σ H Q I h) fun c s1 e=>?_)
 cases c with
 |false=>exact isTrue_or_nil e
 |true=>exact e
theorem zdE (ha:PT X a tA)(hb:PW X (.BoolOp .And (b::rest) pos) tB'):PW X (.BoolOp .And (a::b::rest) pos) (zh7 tA tB'):=by
 intro wh pins s σ H Q I h
 refine isTrue_and (thn (ha pins s σ H _ I h) fun c s1 ⟨H1,I1,q1⟩=>?_)
 cases c with
 |true=>exact hb wh pins s1 σ H1 Q I1 q1
 |false=>exact⟨H1,I1,q1⟩
theorem ba (ha:PT X a tA)(hb:PW X (.BoolOp .Or (b::rest) pos) tB'):PW X (.BoolOp .Or (a::b::rest) pos) (tOr tA tB'):=by
 intro wh pins s σ H Q I h
 refine isTrue_or (thn (ha pins s σ H _ I h) fun c s1 ⟨H1,I1,q1⟩=>?_)
 cases c with
 |true=>exact⟨H1,I1,q1⟩
 |false=>exact hb wh pins s1 σ H1 Q I1 q1
theorem vW (ha:PT X a tA):PT X (.UnaryOp .Not a pos) (zhZ tA):=by
 intro pins s σ H Q I h
 exact isTrue_not (ha pins s σ H (fun c H1=>Q (!c) H1) I h)
def zg3 (ta tb:TE):TE:=fun σ H Q=>ta σ H fun x H1=>∃c,x=.bl c∧if c=true then tb σ H1 Q else Q (.bl false) H1
def zhY (ta tb:TE):TE:=fun σ H Q=>ta σ H fun x H1=>∃c,x=.bl c∧if c=true then Q (.bl true) H1 else tb σ H1 Q
theorem zaU {op}{t:TE}(h:PE X a t):PE X (.BoolOp op [a] pos) t:=fun pins s σ H Q I hw=>BoolOp_one (h pins s σ H Q I hw)
theorem zdU (ha:PE X a ta)(hb:PE X (.BoolOp .And (b::rest) pos) tb):PE X (.BoolOp .And (a::b::rest) pos) (zg3 ta tb):=by
 intro pins s σ H Q I h
 refine BoolOp_and (thn (ha pins s σ H _ I h) fun v s1 ⟨x,H1,I1,r1,q1⟩=>?_)
 obtain⟨c,rfl,q1⟩:=q1
 cases r1
 refine wpAny_truthy_bool ?_
 cases c with
 |true=>exact hb pins s1 σ H1 Q I1 q1
 |false=>exact⟨.bl false,H1,I1,rfl,q1⟩
theorem zhr (ha:PE X a ta)(hb:PE X (.BoolOp .Or (b::rest) pos) tb):PE X (.BoolOp .Or (a::b::rest) pos) (zhY ta tb):=by
 intro pins s σ H Q I h
 refine BoolOp_or (thn (ha pins s σ H _ I h) fun v s1 ⟨x,H1,I1,r1,q1⟩=>?_)
 obtain⟨c,rfl,q1⟩:=q1
 cases r1
 refine wpAny_truthy_bool ?_
 cases c with
 |false=>exact hb pins s1 σ H1 Q I1 q1
 |true=>exact⟨.bl true,H1,I1,rfl,q1⟩
def tIf (t:TT)(ta tb:TE):TE:=fun σ H Q=>t σ H fun c H1=>if c=true then ta σ H1 Q else tb σ H1 Q
theorem zdO {c:Expr}(hc:PT X c tA)(ha:PE X a ta)(hb:PE X b tb):PE X (.IfExp c a b pos) (tIf tA ta tb):=by
 intro pins s σ H Q I h
 refine wpAny_IfExp (thn (hc pins s σ H _ I h) fun d s1 ⟨H1,I1,q1⟩=>?_)
 cases d with
 |true=>exact ha pins s1 σ H1 Q I1 q1
 |false=>exact hb pins s1 σ H1 Q I1 q1
end
end
section
def SqL (K:PySem.W.Frag)(H:Hp)(a:Addr)(xs:List V):Prop:=
 Rd H a (.lst xs)∨
  ∃(o:Obj) (its:Array Value) (n:Nat),K.lookup a=some o∧o.cls=.type "list"∧o.dict=none∧o.data=.seq its n∧its.size≤sizeLine∧Vals xs its.toList∧noT xs
def SqT (K:PySem.W.Frag)(H:Hp)(a:Addr)(xs:List V):Prop:=
 Rd H a (.tup xs)∨
  ∃(o:Obj) (its:Array Value) (n:Nat),K.lookup a=some o∧o.cls=.type "tuple"∧o.data=.seq its n∧its.size≤sizeLine∧Vals xs its.toList∧noT xs
def ziw:Value→Option V
 | .none=>some .non
 | .bool b=>some (.bl b)
 | .int i _=>some (.int i)
 | .str x _=>some (.str x)
 | .bytes b _=>some (.byt b)
 | .ref a=>some (.ref a)
 | .type n=>some (.ty n)
 |_=>none
theorem RelV.abs {x:V}{u:Value}(r:RelV x u)(hx:V.isT x=false):ziw u=some x:=by
 cases x with
 |non=>cases r;rfl
 |bl _=>cases r;rfl
 |int _=>obtain⟨t,rfl⟩:=r;rfl
 |str _=>obtain⟨t,rfl⟩:=r;rfl
 |byt _=>obtain⟨t,rfl⟩:=r;rfl
 |tst _ _=>cases hx
 |ref _=>cases r;rfl
 |ty _=>cases r;rfl
theorem RelV.inj {x y:V}{u:Value}(r:RelV x u)(q:RelV y u)(hx:V.isT x=false)(hy:V.isT y=false):x=y:=Option.some.inj ((r.abs hx).symm.trans (q.abs hy))
theorem Vals.inj:∀{xs ys:List V}{us:List Value},Vals xs us→Vals ys us→noT xs→noT ys→xs=ys
 |_,_,_,.nil,.nil,_,_=>rfl
 |_,_,_,.cons r t,.cons r' t',hx,hy=>by rw[r.inj r' (hx _ List.mem_cons_self) (hy _ List.mem_cons_self),Vals.inj t t' (fun x h=>hx x (List.mem_cons_of_mem _ h)) (fun x h=>hy x (List.mem_cons_of_mem _ h))]
section
variable {X:Cx}{pins:List (Addr×Obj)}{σ:St}{H:Hp}{s:Shared}{a:Addr}{xs ys:List V}
theorem SqL.of {K:PySem.W.Frag}(h:H a=some (.lst xs)):SqL K H a xs:=.inl (.inl h)
theorem SqT.of {K:PySem.W.Frag}(h:H a=some (.tup xs)):SqT K H a xs:=.inl (.inl h)
theorem Inv.list (I:Inv X pins σ H s)(h:SqL X.K H a xs):∃its:List Value,Vals xs its∧PlainL s.heap a its.toArray∧xs.length≤sizeLine:=by
 rcases h with h|⟨o,its,n,hk,hc,hd,hs,hz,r,_⟩
 ·obtain⟨z,its,n,r,e⟩:=h.ok I.hok
  exact⟨its,r,⟨_,n,e,rfl,rfl,rfl⟩,z⟩
 ·refine⟨its.toList,r,⟨o,n,I.kIn a o hk,hc,hd,by simpa using hs⟩,?_⟩
  have e:=r.length
  simp only[Array.length_toList] at e
  omega
theorem Inv.tuple (I:Inv X pins σ H s)(h:SqT X.K H a xs):∃its:List Value,Vals xs its∧IsTup s.heap a its.toArray∧xs.length≤sizeLine:=by
 rcases h with h|⟨o,its,n,hk,hc,hs,hz,r,_⟩
 ·obtain⟨z,its,r,p⟩:=h.ok I.hok
  exact⟨its,r,p,z⟩
 ·refine⟨its.toList,r,⟨o,I.kIn a o hk,hc,n,by simpa using hs⟩,?_⟩
  have e:=r.length
  simp only[Array.length_toList] at e
  omega
theorem Rd.one {u v:HO}(h:Rd H a u)(h':Rd H a v)(hu:∀o y,u≠.frz o y)(hv:∀o y,v≠.frz o y):u=v:=by
 rcases h with h|⟨o,h⟩<;>rcases h' with h'|⟨o',h'⟩<;>rw[h] at h'<;>injection h' with h'
 ·exact absurd h' (hu _ _)
 ·exact absurd h'.symm (hv _ _)
 ·injection h'
theorem Rd.noK (I:Inv X pins σ H s){u:HO}{o:Obj}(h:Rd H a u)(k:X.K.lookup a=some o):False:=by
 have:=(I.bs a o (I.ok.mod.kin a o k)).2
 rcases h with h|⟨_,h⟩<;>rw[this] at h<;>cases h
theorem Inv.list_inj (I:Inv X pins σ H s)(h:SqL X.K H a xs)(h':SqL X.K H a ys):xs=ys:=by
 rcases h with h|⟨o,its,n,hk,hc,hd,hs,hz,r,hx⟩<;>rcases h' with h'|⟨o',its',n',hk',hc',hd',hs',hz',r',hy⟩
 ·have:=Rd.one h h' (fun _ _ z=>nomatch z) (fun _ _ z=>nomatch z)
  injection this
 ·exact(Rd.noK I h hk').elim
 ·exact(Rd.noK I h' hk).elim
 ·rw[hk] at hk';cases hk'
  rw[hs] at hs';cases hs'
  exact r.inj r' hx hy
theorem Inv.tuple_inj (I:Inv X pins σ H s)(h:SqT X.K H a xs)(h':SqT X.K H a ys):xs=ys:=by
 rcases h with h|⟨o,its,n,hk,hc,hs,hz,r,hx⟩<;>rcases h' with h'|⟨o',its',n',hk',hc',hs',hz',r',hy⟩
 ·have:=Rd.one h h' (fun _ _ z=>nomatch z) (fun _ _ z=>nomatch z)
  injection this
 ·exact(Rd.noK I h hk').elim
 ·exact(Rd.noK I h' hk).elim
 ·rw[hk] at hk';cases hk'
  rw[hs] at hs';cases hs'
  exact r.inj r' hx hy
end
abbrev Cx.wish (X:Cx)(E:Value→Shared→Prop):Cx:={ X with xe:=E }
abbrev Cx.nox (X:Cx):Cx:=X.wish fun _ _=>False
theorem Cx.Ok.wish {X:Cx}(ok:X.Ok)(E:Value→Shared→Prop):(X.wish E).Ok:=
 ⟨ok.mod,ok.kind,ok.glob,ok.blt,ok.above,ok.inj,ok.has,ok.cab,ok.hd,ok.frames,ok.stk,ok.exf,ok.bs,ok.bsz,ok.noex,ok.exfs,ok.funs,ok.frf⟩
theorem Cx.Ok.unwish {X:Cx}{E:Value→Shared→Prop}(ok:(X.wish E).Ok):X.Ok:=
 ⟨ok.mod,ok.kind,ok.glob,ok.blt,ok.above,ok.inj,ok.has,ok.cab,ok.hd,ok.frames,ok.stk,ok.exf,ok.bs,ok.bsz,ok.noex,ok.exfs,ok.funs,ok.frf⟩
section
variable {X:Cx}{pins:List (Addr×Obj)}{σ:St}{H:Hp}{s:Shared}{E:Value→Shared→Prop}
theorem Inv.wish (I:Inv X pins σ H s)(E:Value→Shared→Prop):Inv (X.wish E) pins σ H s:=⟨I.ok.wish E,I.os,I.bare,I.base,I.loc,I.cell,I.free,I.freeC,I.pin,I.hok,I.len⟩
theorem Inv.unwish (I:Inv (X.wish E) pins σ H s):Inv X pins σ H s:=⟨I.ok.unwish,I.os,I.bare,I.base,I.loc,I.cell,I.free,I.freeC,I.pin,I.hok,I.len⟩
theorem SP.unwish {D:Ends}{f:Flow}{s':Shared}(h:SP (X.wish E) pins D f s'):SP X pins D f s':=by
 cases f with
 |next=>obtain⟨σ',H',I,q⟩:=h;exact⟨σ',H',I.unwish,q⟩
 |brk=>obtain⟨σ',H',I,q⟩:=h;exact⟨σ',H',I.unwish,q⟩
 |cont=>obtain⟨σ',H',I,q⟩:=h;exact⟨σ',H',I.unwish,q⟩
 |ret u=>obtain⟨v,σ',H',I,r,q⟩:=h;exact⟨v,σ',H',I.unwish,r,q⟩
theorem PSs.nox {st:List Stmt}{t:TS}(h:PSs X.nox st t):PSs X st t:=fun pins s σ H D I hw=>
 wpAny_mono (h pins s σ H D (I.wish _) hw) (fun _ _ q=>q.unwish) fun _ _ z=>False.elim z
end
section
variable {X:Cx}{st:Stmt}{rest:List Stmt}{t u:TS}{e:Expr}{te:TE}{pos:Pos}
def zdn:TS:=fun D σ H=>D.nx σ H
def zeL (t u:TS):TS:=fun D σ H=>t { D with nx:=u D } σ H
theorem zD:PSs X [] zdn:=fun _ _ σ H _ I h=>wpAny_execs_nil ⟨σ,H,I,h⟩
theorem ze (h1:PS X st t)(h2:PSs X rest u):PSs X (st::rest) (zeL t u):=by
 intro pins s σ H D I h
 refine wpAny_execs_cons (thn (h1 pins s σ H { D with nx:=u D } I h) fun f s1 q=>?_)
 cases f with
 |next=>
  obtain⟨σ',H',I',q⟩:=q
  exact h2 pins s1 σ' H' D I' q
 |ret v=>exact q
 |brk=>exact q
 |cont=>exact q
theorem zi (h1:PS X st t):PSs X [st] t:=by
 intro pins s σ H D I h
 refine wpAny_execs_cons (thn (h1 pins s σ H D I h) fun f s1 q=>?_)
 cases f with
 |next=>exact wpAny_execs_nil q
 |ret v=>exact q
 |brk=>exact q
 |cont=>exact q
theorem Inv.quiet {pins:List (Addr×Obj)}{σ:St}{H:Hp}{s:Shared}(I:Inv X pins σ H s):interactive X.env=false:=by simp[interactive,I.ok.kind]
def zgZ (te:TE):TS:=fun D σ H=>te σ H fun _ H1=>D.nx σ H1
theorem dh (he:PE X e te)(hs:swapsWith e none pos.line X.env=pure false:=by rfl):PS X (.Expr e pos) (zgZ te):=by
 intro pins s σ H D I h
 exact wpAny_Expr_any (thn (he pins s σ H _ I h) fun v s1 ⟨x,H1,I1,r1,q1⟩=>⟨σ,H1,I1,q1⟩) I.quiet hs
def zgR (te:TE):TS:=fun D σ H=>te σ H D.rt
theorem zp (he:PE X e te):PS X (.Return (some e) pos) (zgR te):=by
 intro pins s σ H D I h
 exact wpAny_Return_some (thn (he pins s σ H _ I h) fun v s1 ⟨x,H1,I1,r1,q1⟩=>⟨x,σ,H1,I1,r1,q1⟩)
def zh2 (c:TT)(t u:TS):TS:=fun D σ H=>c σ H fun b H1=>if b=true then t D σ H1 else u D σ H1
theorem z4 {c:Expr}{a b:List Stmt}{tc:TT}(hc:PT X c tc)(ha:PSs X a t)(hb:PSs X b u):PS X (.If c a b pos) (zh2 tc t u):=by
 intro pins s σ H D I h
 refine wpAny_If (thn (hc pins s σ H _ I h) fun d s1 ⟨H1,I1,q1⟩=>?_)
 cases d with
 |true=>exact ha pins s1 σ H1 D I1 q1
 |false=>exact hb pins s1 σ H1 D I1 q1
end
abbrev TG:=V→St→Hp→(St→Hp→Prop)→Prop
abbrev TGs:=List V→St→Hp→(St→Hp→Prop)→Prop
def PG (X:Cx)(target:Expr)(t:TG):Prop:=
 ∀(pins:List (Addr×Obj)) (s:Shared) (σ:St) (H:Hp) (v:V) (u:Value) (Q:St→Hp→Prop),Inv X pins σ H s→RelV v u→t v σ H Q→
  wpAny (model X.prog X.w) X.A (assign target X.env u) (fun _ s'=>∃σ' H',Inv X pins σ' H' s'∧Q σ' H') X.xe s
def PGs (X:Cx)(ts:List Expr)(t:TGs):Prop:=
 ∀(pins:List (Addr×Obj)) (s:Shared) (σ:St) (H:Hp) (vs:List V) (us:List Value) (Q:St→Hp→Prop),Inv X pins σ H s→Vals vs us→t vs σ H Q→
  wpAny (model X.prog X.w) X.A (assignInOrder ((assignEach ts X.env).map (·.2)) us) (fun _ s'=>∃σ' H',Inv X pins σ' H' s'∧Q σ' H') X.xe s
section
variable {X:Cx}{pos:Pos}
def zq (i:Nat):TG:=fun v σ H Q=>Q (σ.set i (some v)) H
theorem zr {i:Nat}{x:Str}(hN:X.N.Nodup)(hi:X.N[i]?=some x)(hx:Loc X.env.scope x)(hf:X.fn x=true∨X.env.scope.names.lookup x=some .local:=by first|exact .inl rfl|exact .inr rfl|assumption):PG X (.Name x pos) (zq i):=by
 intro pins s σ H v u Q I r h
 exact wpAny_assign_Name (wG I hN hi hx r (fun s' I'=>⟨_,H,I',h⟩) hf)
def ziq:TGs:=fun vs σ H Q=>vs=[]∧Q σ H
def zf0 (t:TG)(u:TGs):TGs:=fun vs σ H Q=>∃v r,vs=v::r∧t v σ H fun σ' H'=>u r σ' H' Q
theorem vq:PGs X [] ziq:=by
 intro pins s σ H vs us Q I r h
 obtain⟨e,h⟩:=h
 subst e
 cases r
 exact assignInOrder_nil ⟨σ,H,I,h⟩
theorem zP {e:Expr}{es:List Expr}{t:TG}{u:TGs}(h1:PG X e t)(h2:PGs X es u)
 (hs:(assignEach (e::es) X.env).map (·.2)=assign e X.env::(assignEach es X.env).map (·.2):=by rfl):PGs X (e::es) (zf0 t u):=by
 intro pins s σ H vs us Q I r h
 obtain⟨v,vr,e1,h⟩:=h
 subst e1
 cases r with
 |cons r rr=>
  rw[hs]
  refine assignInOrder_cons (thn (h1 pins s σ H _ _ _ I r h) fun _ s1 ⟨σ1,H1,I1,q1⟩=>?_)
  exact h2 pins s1 σ1 H1 _ _ Q I1 rr q1
def zhE (K:PySem.W.Frag)(n:Nat)(t:TGs):TG:=fun v σ H Q=>∃a xs,v=.ref a∧SqT K H a xs∧xs.length=n∧t xs σ H Q
theorem zgp {es:List Expr}{k:Nat}{t:TGs}{n:Nat}(hc:X.calm=true)(h:PGs X es t)
 (hn:(assignEach es X.env).length=n:=by rfl) (hst:(assignEach es X.env).findIdx? (·.1)=none:=by rfl):PG X (.Tuple es k pos) (zhE X.K n t):=by
 intro pins s σ H v u Q I r hw
 obtain⟨a,xs,e1,hq,hl,hw⟩:=hw
 subst e1
 cases r
 obtain⟨its,rv,ht,hz⟩:=I.tuple hq
 refine assign_Tuple_tuple (I.ok.hd hc) ht (by simp[hn,←hl,rv.length]) hst fun h' hx=>?_
 have I1:Inv X pins σ H { s with heap:=h' }:=I.kept (t':=s.toks) fun b o e=>hx b o (Nat.ne_of_lt (Heap.lt_size e)) e
 exact h pins _ σ H xs _ Q I1 (by simpa using rv) hw
def zeP (te:TE)(g:TG):TS:=fun D σ H=>te σ H fun x H1=>g x σ H1 D.nx
theorem di {tg e:Expr}{te:TE}{g:TG}(he:PE X e te)(hg:PG X tg g)(hs:swapsWithSole [tg] e pos.line X.env=pure false:=by rfl)(hw:swappedStores [tg] e X.env=pure none:=by rfl)
 (h1:(assignEach [tg] X.env).map (·.2)=[assign tg X.env]:=by rfl):PS X (.Assign [tg] e pos) (zeP te g):=by
 intro pins s σ H D I h
 refine wpAny_Assign_stores (thn (he pins s σ H _ I h) fun v s1 ⟨x,H1,I1,r1,q1⟩=>?_) hs hw
 rw[h1]
 exact thn (hg pins s1 σ H1 x v _ I1 r1 q1) fun _ s2 q=>q
theorem zm {i:Nat}{x:Str}{e:Expr}{te:TE}{pos':Pos}(hN:X.N.Nodup)(hi:X.N[i]?=some x)(hx:Loc X.env.scope x)(he:PE X e te)(hs:swapsWith e (some (.Name x pos')) pos.line X.env=pure false:=by rfl)(hf:X.fn x=true∨X.env.scope.names.lookup x=some .local:=by first|exact .inl rfl|exact .inr rfl|assumption) :
 PS X (.Assign [.Name x pos'] e pos) (zeP te (zq i)):=by
 intro pins s σ H D I h
 refine wpAny_Assign_Name (thn (he pins s σ H _ I h) fun v s1 ⟨y,H1,I1,r1,q1⟩=>?_) hs
 exact wG I1 hN hi hx r1 (fun s2 I2=>⟨_,H1,I2,q1⟩) hf
end
section
variable {X:Cx}{pos:Pos}
end
structure It where
 go:Nat→Hp→Prop
 yld:Nat→Hp→V→Hp→Prop
 stop:Nat→Hp→Prop
def qa (X:Cx)(pins:List (Addr×Obj))(H:Hp)(b:Addr):Prop:=
 H b=none∧b≠X.env.locals∧b∉X.fs∧(b∈X.ex∨X.s₀.heap.objs.size≤b)∧(∀x c,X.env.cells.lookup x=some c→c≠b)∧∀p∈X.pn++pins,p.1≠b
theorem Inv.fpOk {X:Cx}{pins:List (Addr×Obj)}{σ:St}{H H':Hp}{s:Shared}{b:Addr}(I:Inv X pins σ H s)(hb:s.heap.objs.size≤b)(hn:H' b=none):qa X pins H' b:=by
 refine⟨hn,Nat.ne_of_gt (Nat.lt_of_lt_of_le I.lt hb),I.nofs hb,.inr (Nat.le_trans I.sz hb),fun x c e z=>?_,fun p hp z=>?_⟩
 ·obtain⟨v,q⟩:=I.cell x c e
  exact absurd (Nat.lt_of_lt_of_le q.lt (by rw[z];exact hb)) (Nat.lt_irrefl _)
 ·exact absurd (Nat.lt_of_lt_of_le (Heap.lt_size (I.pin p hp).1) (by rw[z];exact hb)) (Nat.lt_irrefl _)
structure Turn (P:Program)(w:World)(K:PySem.W.Frag)(tg:Expr)(J:It)(fp:List Addr)(it:Addr)(tn:Nat→Heap→Prop):Prop where
 mem:it∈fp
 obj:∀i h,tn i h→∀b∈fp,∃o,h.get? b=some o∧∀v,o.data≠.cell v
 keep:∀i h h',tn i h→(∀b∈fp,∀o,h.get? b=some o→h'.get? b=some o)→tn i h'
 item:∀(X:Cx),X.prog=P→X.w=w→X.K=K→X.calm=true→∀(i:Nat) (pins:List (Addr×Obj)) (s:Shared) (σ:St) (H:Hp) (E:Value→Shared→Prop),Inv X pins σ H s→(∀b∈fp,qa X pins H b)→tn i s.heap→J.go i H→
  wpAny (model P w) X.A (pyNext (.ref it)) (fun r s1=>∃u,r=some u∧
   wpAny (model P w) X.A (letOwnedTupleGo tg (.ref it) u) (fun _ s2=>∃x H',Inv X pins σ H' s2∧RelV x u∧J.yld i H x H'∧tn (i+1) s2.heap∧∀b∈fp,H' b=none) E s1) E s
 done:∀(X:Cx),X.prog=P→X.w=w→X.K=K→X.calm=true→∀(i:Nat) (pins:List (Addr×Obj)) (s:Shared) (σ:St) (H:Hp) (E:Value→Shared→Prop),Inv X pins σ H s→(∀b∈fp,qa X pins H b)→tn i s.heap→J.stop i H→
  wpAny (model P w) X.A (pyNext (.ref it)) (fun r s1=>r=none∧Inv X pins σ H s1) E s
 self:∀(A:Around) (i:Nat) (s:Shared) (Q:Value→Shared→Prop) (E:Value→Shared→Prop),tn i s.heap→Q (.ref it) s→wpAny (model P w) A (pyIter (.ref it)) Q E s
abbrev TI:=St→Hp→(It→Hp→Prop)→Prop
def PIE (X:Cx)(pins:List (Addr×Obj))(σ:St)(tg:Expr)(R:It→Hp→Prop)(itv:Value)(s2:Shared):Prop:=
 ∃(it:Addr) (fp:List Addr) (tn:Nat→Heap→Prop) (J:It) (H':Hp),itv=.ref it∧Inv X pins σ H' s2∧Turn X.prog X.w X.K tg J fp it tn∧tn 0 s2.heap∧(∀b∈fp,qa X pins H' b)∧R J H'
def PI (X:Cx)(tg iter:Expr)(wi:TI):Prop:=
 ∀(pins:List (Addr×Obj)) (s:Shared) (σ:St) (H:Hp) (R:It→Hp→Prop),Inv X pins σ H s→wi σ H R→
  wpAny (model X.prog X.w) X.A (eval iter X.env) (fun v s1=>wpAny (model X.prog X.w) X.A (pyIter v) (PIE X pins σ tg R) X.xe s1) X.xe s
theorem zb3 {M:Model}{A:Around}{E:Value→Shared→Prop}{s:Shared}{tg:Expr}{it:Addr}{u:Value}{o:Obj}{n:String}{vs:Array Value}{Q:Unit→Shared→Prop}(ho:s.heap.get? it=some o)(hc:o.cls=.type n)(hd:o.data=.fields vs)
 (hn:["enumerate","zip","dict_itemiterator","dict_reverseitemiterator","odict_iterator","itertools.zip_longest","itertools.pairwise"].contains n=false) (hQ:Q () s):wpAny M A (letOwnedTupleGo tg (.ref it) u) Q E s:=by
 unfold letOwnedTupleGo
 cases tg<;>first
  |exact wpAny_pure hQ
  |(cases u<;>first
     |exact wpAny_pure hQ
     |(refine wpAny_bind (wpAny_load ho ?_)
       rw[hc,hd]
       show wpAny M A (if(["enumerate","zip","dict_itemiterator","dict_reverseitemiterator","odict_iterator","itertools.zip_longest","itertools.pairwise"].contains n&&vs[0]?==some (rawInt _))=true then _ else _) Q E s
       rw[if_neg (by intro h;rw[hn,Bool.false_and] at h;cases h)]
       exact wpAny_pure hQ))
def Itl (K:PySem.W.Frag)(a:Addr):It:=
 ⟨fun i H=>∃xs x,SqL K H a xs∧xs[i]?=some x,fun i H x H'=>H'=H∧∀xs,SqL K H a xs→xs[i]?=some x,fun i H=>∃xs,SqL K H a xs∧xs.length≤i⟩
def Itt (K:PySem.W.Frag)(a:Addr):It:=
 ⟨fun i H=>∃xs x,SqT K H a xs∧xs[i]?=some x,fun i H x H'=>H'=H∧∀xs,SqT K H a xs→xs[i]?=some x,fun i H=>∃xs,SqT K H a xs∧xs.length≤i⟩
def Itr (lo:Int)(n:Nat):It:=⟨fun i _=>i<n,fun i H x H'=>H'=H∧x=.int (lo+i),fun i _=>n≤i⟩
theorem zcm {P:Program}{w:World}{K:PySem.W.Frag}{tg:Expr}(a it:Addr):Turn P w K tg (Itl K a) [it] it (fun i h=>h.IsListIter it a i) where
 mem:=by simp
 obj:=fun i h st b hb=>by
  have e:b=it:=by simpa using hb
  subst e
  obtain⟨o,e,c,d⟩:=st
  exact⟨o,e,fun v z=>by rw[d] at z;cases z⟩
 keep:=fun i h h' st k=>st.at fun o e=>k it (by simp) o e
 item:=by
  intro X hP hw hK hc i pins s σ H E I hf st hg
  subst hP hw hK
  obtain⟨xs,x,hq,hx⟩:=hg
  obtain⟨its,rv,p,hz⟩:=I.list hq
  obtain⟨u,hu,ru⟩:=rv.get hx
  obtain⟨f0,f1,f2,f3,f4,f5⟩:=hf it (by simp)
  refine wpAny_pyNext_list_item st p.isList (x:=u) (by simpa using hu) fun h' st' sb=>?_
  have I1:Inv X pins σ H { s with heap:=h' }:=I.turned (t':=s.toks) (fun b o hb e=>(sb.2 b hb).trans e) f0 f1 f3 f4 f5
  obtain⟨o,e,c,d⟩:=id st'
  exact⟨u,rfl,zb3 (s:={ s with heap:=h' }) e c d (by decide) ⟨x,H,I1,ru,⟨rfl,fun ys hy=>by rw[I.list_inj hy hq];exact hx⟩,st',fun b hb=>(hf b hb).1⟩⟩
 done:=by
  intro X hP hw hK hc i pins s σ H E I hf st hg
  subst hP hw hK
  obtain⟨xs,hq,hx⟩:=hg
  obtain⟨its,rv,p,hz⟩:=I.list hq
  obtain⟨f0,f1,f2,f3,f4,f5⟩:=hf it (by simp)
  have hl:=rv.length
  exact wpAny_pyNext_list_end (I.ok.hd hc) st p.isList (by simp;omega) fun h' eb=>⟨rfl,I.turned (t':=s.toks) (fun b o hb e=>eb b o hb e) f0 f1 f3 f4 f5⟩
 self:=fun _ _ _ _ _ st h=>wpAny_pyIter_listiter st h
theorem zaH {P:Program}{w:World}{K:PySem.W.Frag}{tg:Expr}(a it:Addr):Turn P w K tg (Itt K a) [it] it (fun i h=>h.IsTupleIter it a i) where
 mem:=by simp
 obj:=fun i h st b hb=>by
  have e:b=it:=by simpa using hb
  subst e
  obtain⟨o,e,c,d⟩:=st
  exact⟨o,e,fun v z=>by rw[d] at z;cases z⟩
 keep:=fun i h h' st k=>st.at fun o e=>k it (by simp) o e
 item:=by
  intro X hP hw hK hc i pins s σ H E I hf st hg
  subst hP hw hK
  obtain⟨xs,x,hq,hx⟩:=hg
  obtain⟨its,rv,p,hz⟩:=I.tuple hq
  obtain⟨u,hu,ru⟩:=rv.get hx
  obtain⟨f0,f1,f2,f3,f4,f5⟩:=hf it (by simp)
  refine wpAny_pyNext_tuple_item st (show s.heap.IsTuple a its.toArray from p) (x:=u) (by simpa using hu) fun h' st' sb=>?_
  have I1:Inv X pins σ H { s with heap:=h' }:=I.turned (t':=s.toks) (fun b o hb e=>(sb.2 b hb).trans e) f0 f1 f3 f4 f5
  obtain⟨o,e,c,d⟩:=id st'
  exact⟨u,rfl,zb3 (s:={ s with heap:=h' }) e c d (by decide) ⟨x,H,I1,ru,⟨rfl,fun ys hy=>by rw[I.tuple_inj hy hq];exact hx⟩,st',fun b hb=>(hf b hb).1⟩⟩
 done:=by
  intro X hP hw hK hc i pins s σ H E I hf st hg
  subst hP hw hK
  obtain⟨xs,hq,hx⟩:=hg
  obtain⟨its,rv,p,hz⟩:=I.tuple hq
  obtain⟨f0,f1,f2,f3,f4,f5⟩:=hf it (by simp)
  have hl:=rv.length
  exact wpAny_pyNext_tuple_end (I.ok.hd hc) st (show s.heap.IsTuple a its.toArray from p) (by simp;omega) fun h' eb=>⟨rfl,I.turned (t':=s.toks) (fun b o hb e=>eb b o hb e) f0 f1 f3 f4 f5⟩
 self:=fun _ _ _ _ _ st h=>wpAny_pyIter_tupleiter st h
theorem zaI {P:Program}{w:World}{K:PySem.W.Frag}{tg:Expr}(it:Addr)(lo:Int)(n:Nat):Turn P w K tg (Itr lo n) [it] it (fun i h=>IsRangeIter h it (lo+(i:Nat)*1) ((n:Int)-(i:Nat)) 1) where
 mem:=by simp
 obj:=fun i h st b hb=>by
  have e:b=it:=by simpa using hb
  subst e
  exact⟨_,st,fun v z=>by
   have z':Data.fields _=Data.cell v:=z
   cases z'⟩
 keep:=fun i h h' st k=>k it (by simp) _ st
 item:=by
  intro X hP hw hK hc i pins s σ H E I hf st hg
  subst hP hw hK
  obtain⟨f0,f1,f2,f3,f4,f5⟩:=hf it (by simp)
  have W:=Walks.range (prog:=X.prog) (w:=X.w) (I.ok.hd hc) it lo 1 n
  refine W.item i s _ _ hg st fun v h' tk hv st' kk=>?_
  obtain⟨t,rfl⟩:=hv
  have I1:Inv X pins σ H { s with heap:=h',toks:=tk }:=I.turned (fun b o hb e=>kk b o (by simpa using hb) e) f0 f1 f3 f4 f5
  refine⟨_,rfl,zb3 (s:={ s with heap:=h',toks:=tk }) (n:="range_iterator") st' rfl rfl (by decide) ⟨.int (lo+i),H,I1,⟨t,?_⟩,⟨rfl,rfl⟩,st',fun b hb=>(hf b hb).1⟩⟩
  rw[Int.mul_one]
 done:=by
  intro X hP hw hK hc i pins s σ H E I hf st hg
  subst hP hw hK
  obtain⟨f0,f1,f2,f3,f4,f5⟩:=hf it (by simp)
  exact wpAny_pyNext_range_end (I.ok.hd hc) st (by have:n≤i:=hg;omega) fun h' eb=>⟨rfl,I.turned (t':=s.toks) (fun b o hb e=>eb b o hb e) f0 f1 f3 f4 f5⟩
 self:=fun _ _ _ _ _ st h=>wpAny_pyIter_rangeiter st h
end
section
section
variable {X:Cx}{tg:Expr}
def zfZ (K:PySem.W.Frag)(tl:TE):TI:=fun σ H R=>tl σ H fun x H1=>∃a,x=.ref a∧(∃xs,SqL K H1 a xs)∧R (Itl K a) H1
def zhy (K:PySem.W.Frag)(tl:TE):TI:=fun σ H R=>tl σ H fun x H1=>∃a,x=.ref a∧(∃xs,SqT K H1 a xs)∧R (Itt K a) H1
theorem ze1 {l:Expr}{tl:TE}(hl:PE X l tl):PI X tg l (zfZ X.K tl):=by
 intro pins s σ H R I h
 refine thn (hl pins s σ H _ I h) fun v s1 ⟨x,H1,I1,r1,q1⟩=>?_
 obtain⟨a,e,⟨xs,hq⟩,q⟩:=q1
 subst e
 cases r1
 obtain⟨its,rv,p,hz⟩:=I1.list hq
 refine wpAny_pyIter_list p.isList ?_
 refine⟨s1.heap.objs.size,[s1.heap.objs.size],_,_,H1,rfl,I1.kept (t':=s1.toks) fun b o e=>Heap.get?_push_of_some _ e,zcm a _,⟨_,Heap.get?_push_size _ rfl,rfl,rfl⟩,fun b hb=>?_,q⟩
 have e:b=s1.heap.objs.size:=by simpa using hb
 subst e
 exact I1.fpOk (Nat.le_refl _) (I1.hok.fresh (Nat.le_refl _))
theorem zgo {l:Expr}{tl:TE}(hl:PE X l tl):PI X tg l (zhy X.K tl):=by
 intro pins s σ H R I h
 refine thn (hl pins s σ H _ I h) fun v s1 ⟨x,H1,I1,r1,q1⟩=>?_
 obtain⟨a,e,⟨xs,hq⟩,q⟩:=q1
 subst e
 cases r1
 obtain⟨its,rv,p,hz⟩:=I1.tuple hq
 refine wpAny_pyIter_tuple (show s1.heap.IsTuple a its.toArray from p) ?_
 refine⟨s1.heap.objs.size,[s1.heap.objs.size],_,_,H1,rfl,I1.kept (t':=s1.toks) fun b o e=>Heap.get?_push_of_some _ e,zaH a _,⟨_,Heap.get?_push_size _ rfl,rfl,rfl⟩,fun b hb=>?_,q⟩
 have e:b=s1.heap.objs.size:=by simpa using hb
 subst e
 exact I1.fpOk (Nat.le_refl _) (I1.hok.fresh (Nat.le_refl _))
theorem pZ {pins:List (Addr×Obj)}{σ:St}{H:Hp}{s:Shared}{R:It→Hp→Prop}{E:Value→Shared→Prop}{lo hi:Int}{t u v:Tok}{tk:Nat}(I:Inv X pins σ H s)(h1 : -(2^62)≤lo)(h2:lo<2^62)(h3 : -(2^62)≤hi)(h4:hi<2^62)
 (q:R (Itr lo (hi-lo).toNat) H):wpAny (model X.prog X.w) X.A (pyIter (.ref s.heap.objs.size)) (PIE X pins σ tg R) E { s with heap:=s.heap.push { cls:=.type "range",data:=.fields #[.int lo t,.int hi u,.int 1 v] },toks:=tk }:=by
 refine wpAny_pyIter_range (IsRange.new ..) (small_one h1 h2 h3 h4) ?_
 have I1:Inv X pins σ H { s with heap:=s.heap.push { cls:=.type "range",data:=.fields #[.int lo t,.int hi u,.int 1 v] },toks:=tk }:=I.kept fun b o e=>Heap.get?_push_of_some _ e
 refine⟨(s.heap.push { cls:=.type "range",data:=.fields #[.int lo t,.int hi u,.int 1 v] }).objs.size,[(s.heap.push { cls:=.type "range",data:=.fields #[.int lo t,.int hi u,.int 1 v] }).objs.size],_,_,H,rfl,
  I1.kept (t':=tk) fun b o e=>Heap.get?_push_of_some _ e,zaI _ lo (hi-lo).toNat,?_,fun b hb=>?_,q⟩
 ·have e1:lo+((0:Nat):Int)*1=lo:=by simp
  have e2:(((hi-lo).toNat:Nat):Int)-((0:Nat):Int)=Builtin.Range.rangeSize lo hi 1:=by rw[rangeSize_one];split<;>omega
  show IsRangeIter _ _ (lo+((0:Nat):Int)*1) ((((hi-lo).toNat:Nat):Int)-((0:Nat):Int)) 1
  rw[e1,e2]
  exact Heap.get?_push_size _ rfl
 ·have e:b=(s.heap.push { cls:=.type "range",data:=.fields #[.int lo t,.int hi u,.int 1 v] }).objs.size:=by simpa using hb
  subst e
  exact I1.fpOk (Nat.le_refl _) (I1.hok.fresh (Nat.le_refl _))
def zhA (ta:TA):TI:=fun σ H R=>ta σ H fun vs H1=>∃j:Int,vs=[.int j]∧-(2^62)≤j∧j<2^62∧R (Itr 0 j.toNat) H1
def zhz (ta:TA):TI:=fun σ H R=>ta σ H fun vs H1=>∃i j:Int,vs=[.int i,.int j]∧(-(2^62)≤i∧i<2^62∧-(2^62)≤j∧j<2^62)∧R (Itr i (j-i).toNat) H1
theorem ym {a:Expr}{ta:TA}{p pos:Pos}(hg:Gl X "range")(hm:X.mg "range"=none)(ha:PA X [a] ta)(hs:starEach [a] X.env=[(false,eval a X.env)]:=by rfl):PI X tg (.Call (.Name "range" p) [a] [] pos) (zhA ta):=by
 intro pins s σ H R I h
 refine Call_ (we I hg hm boot_range (PyProof.Rows.callWith_type1 (thn (ha pos pins s σ H _ I h) fun us s1 ⟨vs,H1,I1,r1,q1⟩=>?_) hs rfl))
 obtain⟨j,e,q1,q2,q⟩:=q1
 subst e
 cases r1 with
 |cons r rr=>
  cases rr
  obtain⟨t,rfl⟩:=r
  exact call_range_1 (pZ I1 (by omega) (by omega) q1 q2 (by simpa using q))
theorem zcy {a b:Expr}{ta:TA}{p pos:Pos}(hg:Gl X "range")(hm:X.mg "range"=none)(ha:PA X [a,b] ta)(hs:starEach [a,b] X.env=[(false,eval a X.env),(false,eval b X.env)]:=by rfl)(hs2:starEach [b] X.env=[(false,eval b X.env)]:=by rfl) :
 PI X tg (.Call (.Name "range" p) [a,b] [] pos) (zhz ta):=by
 intro pins s σ H R I h
 refine Call_ (we I hg hm boot_range (PyProof.Rows.callWith_type1 (thn (ha pos pins s σ H _ I h) fun us s1 ⟨vs,H1,I1,r1,q1⟩=>?_) (by rw[hs,hs2]) (by rw[hs2];rfl)))
 obtain⟨i,j,e,⟨q1,q2,q3,q4⟩,q⟩:=q1
 subst e
 cases r1 with
 |cons r rr=>
  cases rr with
  |cons r' rr=>
   cases rr
   obtain⟨t,rfl⟩:=r
   obtain⟨t',rfl⟩:=r'
   exact call_range_2 (pZ I1 q1 q2 q3 q4 q)
def zh4 (wi:TI)(g:TG)(tb:TS):TS:=fun D σ H=>wi σ H fun J H1=>∃W:Nat→Nat→St→Hp→Prop,(∃m,W 0 m σ H1)∧∀i m σ H,W i m σ H→
 (J.stop i H∧D.nx σ H)∨(J.go i H∧∃N:St→Hp→Prop,(∀σ' H',N σ' H'→∃m',m'<m∧W (i+1) m' σ' H')∧∀x H',J.yld i H x H'→g x σ H' fun σ2 H2=>tb { D with nx:=N,ct:=N,bk:=D.nx } σ2 H2)
def wb (fp:List Addr)(h:Heap):List (Addr×Obj):=fp.filterMap fun b=>(h.get? b).map fun o=>(b,o)
theorem zR {fp:List Addr}{h:Heap}{b:Addr}{o:Obj}(hb:b∈fp)(e:h.get? b=some o):(b,o)∈wb fp h:=List.mem_filterMap.mpr ⟨b,hb,by rw[e];rfl⟩
theorem zcI {fp:List Addr}{h:Heap}{p:Addr×Obj}(hp:p∈wb fp h):p.1∈fp∧h.get? p.1=some p.2:=by
 obtain⟨b,hb,e⟩:=List.mem_filterMap.mp hp
 cases q:h.get? b with
 |none=>rw[q] at e;cases e
 |some o=>
  rw[q] at e
  have e':(b,o)=p:=Option.some.inj e
  subst e'
  exact⟨hb,q⟩
theorem Inv.pinned {pins:List (Addr×Obj)}{σ:St}{H:Hp}{s:Shared}{fp:List Addr}(I:Inv X pins σ H s)(hf:∀b∈fp,qa X pins H b)(ho:∀b∈fp,∃o,s.heap.get? b=some o∧∀v,o.data≠.cell v):Inv X (pins++wb fp s.heap) σ H s:=
 I.pins_of fun p hp=>(List.mem_append.mp hp).elim (fun z=>I.pin p (List.mem_append_right _ z)) fun z=>by
  obtain⟨hb,e⟩:=zcI z
  obtain⟨f0,f1,f2,_⟩:=hf p.1 hb
  obtain⟨o,e',d⟩:=ho p.1 hb
  rw[e] at e';cases e'
  exact⟨e,f0,f1,f2,d⟩
theorem Inv.unpinned {pins pl:List (Addr×Obj)}{σ:St}{H:Hp}{s:Shared}(I:Inv X (pins++pl) σ H s):Inv X pins σ H s:=I.pins_of fun p hp=>I.pin p (List.mem_append_right _ (List.mem_append_left _ hp))
theorem dg {iter:Expr}{body:List Stmt}{wi:TI}{g:TG}{tb:TS}{pos:Pos}(hp:PassesOwn (model X.prog X.w) X.A X.env X.xe)(hc:X.calm=true)(hi:PI X tg iter wi)(hg:PG X tg g)(hb:PSs X body tb)
 (hs:∀x,foldedSetIterable iter X.env x=pure x:=by intro _;rfl):PS X (.For tg iter body [] pos) (zh4 wi g tb):=by
 intro pins s σ H D I h
 refine wpAny_For (thn (hi pins s σ H _ I h) fun v s1 h1=>thn h1 fun itv s2 h2=>?_) hs
 obtain⟨it,fp,tn,J,H2,e,I2,T,st2,f2,W,⟨m0,w0⟩,turn⟩:=h2
 subst e
 have stat:∀{H':Hp},(∀b∈fp,H' b=none)→∀b∈fp,qa X pins H' b:=fun hn b hb=>⟨hn b hb,(f2 b hb).2⟩
 refine codeAny_forLoop_any (fun n s'=>∃i σ' H',Inv X pins σ' H' s'∧tn i s'.heap∧(∀b∈fp,H' b=none)∧W i n σ' H') ?_ m0 ⟨0,σ,H2,I2,st2,fun b hb=>(f2 b hb).1,w0⟩
 rintro n s3 ⟨i,σ3,H3,I3,st3,fr3,w3⟩
 rcases turn i n σ3 H3 w3 with⟨stop,qn⟩|⟨go,N,hN,step⟩
 ·refine wpAny_passesOwn hp (thn (T.done X rfl rfl rfl hc i pins s3 σ3 H3 X.xe I3 (stat fr3) st3 stop) fun r s4 ⟨hr,I4⟩=>?_)
  subst hr
  exact wpAny_execs_nil ⟨σ3,H3,I4,qn⟩
 ·refine wpAny_passesOwn hp (thn (T.item X rfl rfl rfl hc i pins s3 σ3 H3 X.xe I3 (stat fr3) st3 go) fun r s4 ⟨u,hr,h4⟩=>?_)
  subst hr
  refine wpAny_passesOwn hp (thn h4 fun _ s5 ⟨x,H5,I5,r5,y5,st5,fr5⟩=>?_)
  have I5':=I5.pinned (stat fr5) (T.obj _ _ st5)
  refine wpAny_passesOwn hp (thn (hg _ s5 σ3 H5 x u _ I5' r5 (step x H5 y5)) fun _ s6 ⟨σ6,H6,I6,q6⟩=>?_)
  refine wpAny_passesOwn hp (thn (hb _ s6 σ6 H6 _ I6 q6) fun f s7 q7=>?_)
  have again:∀{σ7:St}{H7:Hp},Inv X (pins++wb fp s5.heap) σ7 H7 s7→N σ7 H7→∃m,m<n∧∃i σ' H',Inv X pins σ' H' s7∧tn i s7.heap∧(∀b∈fp,H' b=none)∧W i m σ' H':=fun {σ7 H7} I7 n7=>by
   obtain⟨m',hm,w7⟩:=hN σ7 H7 n7
   refine⟨m',hm,i+1,σ7,H7,I7.unpinned,T.keep _ _ _ st5 fun b hb o e=>(I7.pin (b,o) (List.mem_append_right _ (List.mem_append_right _ (zR hb e)))).1,fun b hb=>?_,w7⟩
   obtain⟨o,e,d⟩:=T.obj _ _ st5 b hb
   exact(I7.pin (b,o) (List.mem_append_right _ (List.mem_append_right _ (zR hb e)))).2.1
  cases f with
  |next=>obtain⟨σ7,H7,I7,n7⟩:=q7;exact again I7 n7
  |cont=>obtain⟨σ7,H7,I7,n7⟩:=q7;exact again I7 n7
  |brk=>obtain⟨σ7,H7,I7,q7⟩:=q7;exact⟨σ7,H7,I7.unpinned,q7⟩
  |ret v=>obtain⟨x7,σ7,H7,I7,r7,q7⟩:=q7;exact⟨x7,σ7,H7,I7.unpinned,r7,q7⟩
end
theorem gM {K:PySem.W.Frag}{a:Addr}{xs:List V}{g:TG}{tb:TS}{D:Ends}{σ:St}{H:Hp}(Pv:Nat→St→Hp→Prop)(h0:Pv 0 σ H)(hl:∀i σ H,i≤xs.length→Pv i σ H→SqL K H a xs)
 (hs:∀i x σ H,xs[i]?=some x→Pv i σ H→g x σ H fun σ2 H2=>tb { D with nx:=Pv (i+1),ct:=Pv (i+1),bk:=D.nx } σ2 H2) (hd:∀σ H,Pv xs.length σ H→D.nx σ H) :
 ∃W:Nat→Nat→St→Hp→Prop,(∃m,W 0 m σ H)∧∀i m σ H,W i m σ H→
  ((Itl K a).stop i H∧D.nx σ H)∨((Itl K a).go i H∧∃N:St→Hp→Prop,(∀σ' H',N σ' H'→∃m',m'<m∧W (i+1) m' σ' H')∧∀x H',(Itl K a).yld i H x H'→g x σ H' fun σ2 H2=>tb { D with nx:=N,ct:=N,bk:=D.nx } σ2 H2):=by
 refine⟨fun i m σ H=>m=xs.length-i∧i≤xs.length∧Pv i σ H,⟨xs.length,by simp,Nat.zero_le _,h0⟩,?_⟩
 rintro i m σ H ⟨rfl,hi,p⟩
 have q:=hl i σ H hi p
 by_cases hlt:i<xs.length
 ·refine .inr ⟨⟨xs,xs[i],q,by simp[hlt]⟩,Pv (i+1),fun σ' H' p'=>⟨xs.length-(i+1),by omega,rfl,hlt,p'⟩,fun x H' y=>?_⟩
  obtain⟨e,y⟩:=y
  subst e
  exact hs i x σ _ (y xs q) p
 ·have e:i=xs.length:=by omega
  subst e
  exact .inl ⟨⟨xs,q,Nat.le_refl _⟩,hd σ H p⟩
theorem zb6 {K:PySem.W.Frag}{a:Addr}{xs:List V}{g:TG}{tb:TS}{D:Ends}{σ:St}{H:Hp}(Pv:Nat→St→Hp→Prop)(h0:Pv 0 σ H)(hl:∀i σ H,i≤xs.length→Pv i σ H→SqT K H a xs)
 (hs:∀i x σ H,xs[i]?=some x→Pv i σ H→g x σ H fun σ2 H2=>tb { D with nx:=Pv (i+1),ct:=Pv (i+1),bk:=D.nx } σ2 H2) (hd:∀σ H,Pv xs.length σ H→D.nx σ H) :
 ∃W:Nat→Nat→St→Hp→Prop,(∃m,W 0 m σ H)∧∀i m σ H,W i m σ H→
  ((Itt K a).stop i H∧D.nx σ H)∨((Itt K a).go i H∧∃N:St→Hp→Prop,(∀σ' H',N σ' H'→∃m',m'<m∧W (i+1) m' σ' H')∧∀x H',(Itt K a).yld i H x H'→g x σ H' fun σ2 H2=>tb { D with nx:=N,ct:=N,bk:=D.nx } σ2 H2):=by
 refine⟨fun i m σ H=>m=xs.length-i∧i≤xs.length∧Pv i σ H,⟨xs.length,by simp,Nat.zero_le _,h0⟩,?_⟩
 rintro i m σ H ⟨rfl,hi,p⟩
 have q:=hl i σ H hi p
 by_cases hlt:i<xs.length
 ·refine .inr ⟨⟨xs,xs[i],q,by simp[hlt]⟩,Pv (i+1),fun σ' H' p'=>⟨xs.length-(i+1),by omega,rfl,hlt,p'⟩,fun x H' y=>?_⟩
  obtain⟨e,y⟩:=y
  subst e
  exact hs i x σ _ (y xs q) p
 ·have e:i=xs.length:=by omega
  subst e
  exact .inl ⟨⟨xs,q,Nat.le_refl _⟩,hd σ H p⟩
theorem bE {lo:Int}{n:Nat}{g:TG}{tb:TS}{D:Ends}{σ:St}{H:Hp}(Pv:Nat→St→Hp→Prop)(h0:Pv 0 σ H)
 (hs:∀i σ H,i<n→Pv i σ H→g (.int (lo+i)) σ H fun σ2 H2=>tb { D with nx:=Pv (i+1),ct:=Pv (i+1),bk:=D.nx } σ2 H2) (hd:∀σ H,Pv n σ H→D.nx σ H) :
 ∃W:Nat→Nat→St→Hp→Prop,(∃m,W 0 m σ H)∧∀i m σ H,W i m σ H→
  ((Itr lo n).stop i H∧D.nx σ H)∨((Itr lo n).go i H∧∃N:St→Hp→Prop,(∀σ' H',N σ' H'→∃m',m'<m∧W (i+1) m' σ' H')∧∀x H',(Itr lo n).yld i H x H'→g x σ H' fun σ2 H2=>tb { D with nx:=N,ct:=N,bk:=D.nx } σ2 H2):=by
 refine⟨fun i m σ H=>m=n-i∧i≤n∧Pv i σ H,⟨n,by simp,Nat.zero_le _,h0⟩,?_⟩
 rintro i m σ H ⟨rfl,hi,p⟩
 by_cases hlt:i<n
 ·refine .inr ⟨hlt,Pv (i+1),fun σ' H' p'=>⟨n-(i+1),by omega,rfl,hlt,p'⟩,fun x H' y=>?_⟩
  obtain⟨e,y⟩:=y
  subst e y
  exact hs i σ _ hlt p
 ·have e:i=n:=by omega
  subst e
  exact .inl ⟨Nat.le_refl _,hd σ H p⟩
end
section
abbrev R2:=V→V→Hp→VK→Prop
def OpR (X:Cx)(f:Value→Value→Sem Value)(r:R2):Prop:=
 ∀(pins:List (Addr×Obj)) (s:Shared) (σ:St) (H:Hp) (x y:V) (v u:Value) (Q:VK),Inv X pins σ H s→RelV x v→RelV y u→r x y H Q→
  wpAny (model X.prog X.w) X.A (f v u) (EP X pins σ Q) X.xe s
def UnR (X:Cx)(f:Value→Sem Value)(r:V→Hp→VK→Prop):Prop:=
 ∀(pins:List (Addr×Obj)) (s:Shared) (σ:St) (H:Hp) (x:V) (v:Value) (Q:VK),Inv X pins σ H s→RelV x v→r x H Q→
  wpAny (model X.prog X.w) X.A (f v) (EP X pins σ Q) X.xe s
def CallR (X:Cx)(f:Value)(r:List V→Hp→VK→Prop):Prop:=
 ∀(pins:List (Addr×Obj)) (s:Shared) (σ:St) (H:Hp) (xs:List V) (us:List Value) (Q:VK),Inv X pins σ H s→Vals xs us→r xs H Q→
  wpAny (model X.prog X.w) X.A (call f us) (EP X pins σ Q) X.xe s
def tOp (r:R2)(ta tb:TE):TE:=fun σ H Q=>ta σ H fun x H1=>tb σ H1 fun y H2=>r x y H2 Q
def tUn (r:V→Hp→VK→Prop)(ta:TE):TE:=fun σ H Q=>ta σ H fun x H1=>r x H1 Q
def rI (C:Int→Int→Prop)(g:Int→Int→V):R2:=fun x y H Q=>∃i j,x=.int i∧y=.int j∧C i j∧Q (g i j) H
def rI0 (g:Int→Int→V):R2:=fun x y H Q=>∃i j,x=.int i∧y=.int j∧Q (g i j) H
def rU (g:Int→V):V→Hp→VK→Prop:=fun x H Q=>∃i,x=.int i∧Q (g i) H
section
variable {X:Cx}{a b c:Expr}{ta tb tc:TE}{pos:Pos}
theorem zgK (ha:PE X a ta)(hb:PE X b tb){pins:List (Addr×Obj)}{s:Shared}{σ:St}{H:Hp}{R:V→V→Hp→Prop}(I:Inv X pins σ H s)
 (h:ta σ H fun x H1=>tb σ H1 fun y H2=>R x y H2){Q:Value→Shared→Prop}{f:Value→Value→Sem Value}
 (hf:∀v u s2 x y H2,Inv X pins σ H2 s2→RelV x v→RelV y u→R x y H2→wpAny (model X.prog X.w) X.A (f v u) Q X.xe s2) :
 wpAny (model X.prog X.w) X.A (eval a X.env) (fun v s₁=>wpAny (model X.prog X.w) X.A (eval b X.env) (fun u s₂=>wpAny (model X.prog X.w) X.A (f v u) Q X.xe s₂) X.xe s₁) X.xe s:=by
 refine thn (ha pins s σ H _ I h) fun v s1 ⟨x,H1,I1,r1,q1⟩=>?_
 refine thn (hb pins s1 σ H1 _ I1 q1) fun u s2 ⟨y,H2,I2,r2,q2⟩=>?_
 exact hf v u s2 x y H2 I2 r1 r2 q2
theorem zk {op:Operator}{r:R2}(ho:OpR X (binaryOp op) r)(ha:PE X a ta)(hb:PE X b tb):PE X (.BinOp a op b pos) (tOp r ta tb):=by
 intro pins s σ H Q I h
 exact wpAny_BinOp (zgK ha hb I h fun v u s2 x y H2 I2 rx ry q=>ho pins s2 σ H2 x y v u Q I2 rx ry q)
theorem zbQ {op:UnaryOp}{r:V→Hp→VK→Prop}(ho:UnR X (unaryOp op) r)(ha:PE X a ta):PE X (.UnaryOp op a pos) (tUn r ta):=by
 intro pins s σ H Q I h
 exact UnaryOp_ (thn (ha pins s σ H _ I h) fun v s1 ⟨x,H1,I1,r1,q1⟩=>ho pins s1 σ H1 x v Q I1 r1 q1)
theorem opI {f:Value→Value→Sem Value}{C:Int→Int→Prop}{g:Int→Int→Int}
 (rule:∀(i j:Int) (t u:Tok) (s:Shared) (Q:Value→Shared→Prop) (E:Value→Shared→Prop),C i j→Q (.int (g i j) s.toks) { s with toks:=s.toks+1 }→wpAny (model X.prog X.w) X.A (f (.int i t) (.int j u)) Q E s) :
 OpR X f (rI C fun i j=>.int (g i j)):=by
 intro pins s σ H x y v u Q I rx ry h
 obtain⟨i,j,rfl,rfl,hc,q⟩:=h
 obtain⟨t,rfl⟩:=rx
 obtain⟨t',rfl⟩:=ry
 exact rule i j t t' s _ _ hc ⟨.int (g i j),H,I.tok _,⟨_,rfl⟩,q⟩
theorem zhu {f:Value→Value→Sem Value}{g:Int→Int→Int}
 (rule:∀(i j:Int) (t u:Tok) (s:Shared) (Q:Value→Shared→Prop) (E:Value→Shared→Prop),Q (.int (g i j) s.toks) { s with toks:=s.toks+1 }→wpAny (model X.prog X.w) X.A (f (.int i t) (.int j u)) Q E s) :
 OpR X f (rI0 fun i j=>.int (g i j)):=by
 intro pins s σ H x y v u Q I rx ry h
 obtain⟨i,j,rfl,rfl,q⟩:=h
 obtain⟨t,rfl⟩:=rx
 obtain⟨t',rfl⟩:=ry
 exact rule i j t t' s _ _ ⟨.int (g i j),H,I.tok _,⟨_,rfl⟩,q⟩
theorem zfc {f:Value→Value→Sem Value}{g:Int→Int→Bool}
 (rule:∀(i j:Int) (t u:Tok) (s:Shared) (Q:Value→Shared→Prop) (E:Value→Shared→Prop),Q (.bool (g i j)) s→wpAny (model X.prog X.w) X.A (f (.int i t) (.int j u)) Q E s) :
 OpR X f (rI0 fun i j=>.bl (g i j)):=by
 intro pins s σ H x y v u Q I rx ry h
 obtain⟨i,j,rfl,rfl,q⟩:=h
 obtain⟨t,rfl⟩:=rx
 obtain⟨t',rfl⟩:=ry
 exact rule i j t t' s _ _ ⟨.bl (g i j),H,I,rfl,q⟩
def ziz (i j:Int):Prop:=0≤j∧j≤1000000∧i.natAbs<2^64
def CMul (i j:Int):Prop:=(-(2^64)<i∧i<2^64)∨(-(2^64)<j∧j<2^64)
theorem CMul.ok {i j:Int}(h:CMul i j):IntMulOk i j:=by
 rcases h with⟨h1,h2⟩|⟨h1,h2⟩
 ·exact .of_left (intBits_le_64 h1 h2)
 ·exact .of_right (intBits_le_64 h1 h2)
theorem vX:OpR X (binaryOp .Add) (rI0 fun i j=>.int (i+j)):=zhu fun _ _ _ _ _ _ _ q=>add_int q
theorem du:OpR X (binaryOp .Sub) (rI0 fun i j=>.int (i-j)):=zhu fun _ _ _ _ _ _ _ q=>sub_int q
theorem dw:OpR X (binaryOp .Mult) (rI CMul fun i j=>.int (i*j)):=opI fun _ _ _ _ _ _ _ hc q=>mul_int q hc.ok
theorem qI:OpR X (binaryOp .Mod) (rI (fun _ j=>0<j) fun i j=>.int (i%j)):=opI fun i j _ _ _ _ _ hc q=>by
 have h1:(0:Int)<j:=hc
 exact mod_int' (by omega) (by rw[Int.fmod_eq_emod_of_nonneg i (by omega)];exact q)
theorem zd0:OpR X (binaryOp .Pow) (rI ziz fun i j=>.int (i^j.toNat)):=opI fun _ _ _ _ _ _ _ hc q=>pow_int_small hc.1 hc.2.1 hc.2.2 q
theorem unI {f:Value→Sem Value}{g:Int→Int}
 (rule:∀(i:Int) (t:Tok) (s:Shared) (Q:Value→Shared→Prop) (E:Value→Shared→Prop),Q (.int (g i) s.toks) { s with toks:=s.toks+1 }→wpAny (model X.prog X.w) X.A (f (.int i t)) Q E s) :
 UnR X f (rU fun i=>.int (g i)):=by
 intro pins s σ H x v Q I rx h
 obtain⟨i,rfl,q⟩:=h
 obtain⟨t,rfl⟩:=rx
 exact rule i t s _ _ ⟨.int (g i),H,I.tok _,⟨_,rfl⟩,q⟩
theorem bT:UnR X (unaryOp .USub) (rU fun i=>.int (-i)):=unI fun _ _ _ _ _ q=>neg_int q
end
def zg9:V→V→Bool
 | .non,.non=>true | .non,.int _=>true | .int _,.non=>true | .non,.bl _=>true | .bl _,.non=>true | .non,.str _=>true | .str _,.non=>true
 | .int _,.int _=>true | .bl _,.bl _=>true | .str _,.str _=>true | .byt _,.byt _=>true
 | .int _,.str _=>true | .str _,.int _=>true | .bl _,.str _=>true | .str _,.bl _=>true
 |_,_=>false
def rEq:R2:=fun x y H Q=>zg9 x y=true∧Q (.bl (decide (x=y))) H
def rNe:R2:=fun x y H Q=>zg9 x y=true∧Q (.bl (!decide (x=y))) H
theorem zcb {i j:Int}:decide (V.int i=V.int j)=(i==j):=by
 rw[Bool.eq_iff_iff]
 simp
theorem zex {i j:Bool}:decide (V.bl i=V.bl j)=(i==j):=by
 rw[Bool.eq_iff_iff]
 simp
theorem zca {i j:Str}:decide (V.str i=V.str j)=(i==j):=by
 rw[Bool.eq_iff_iff]
 simp
theorem zcc {i j:Array UInt8}:decide (V.byt i=V.byt j)=(i.toList==j.toList):=by
 rw[Bool.eq_iff_iff]
 cases i
 cases j
 simp
section
variable {X:Cx}{a b c:Expr}{ta tb tc:TE}{pos:Pos}
theorem zy {pins:List (Addr×Obj)}{σ:St}{H:Hp}{s:Shared}{Q:VK}{k k':Bool}(I:Inv X pins σ H s)(q:Q (.bl k) H)(e:k=k'):EP X pins σ Q (.bool k') s:=by
 subst e
 exact⟨.bl k,H,I,rfl,q⟩
theorem wN:OpR X (compareOp .Eq) rEq:=by
 intro pins s σ H x y v u Q I rx ry h
 obtain⟨hs,q⟩:=h
 cases x with
 |non=>
  cases rx
  cases y with
  |non=>cases ry;exact PySem.EqNone.eq_none_none (zy I q (by simp))
  |bl j=>cases ry;exact PySem.EqNone.eq_none_bool (zy I q (by simp))
  |int j=>obtain⟨t',rfl⟩:=ry;exact PySem.EqNone.eq_none_int (zy I q (by simp))
  |str j=>obtain⟨t',rfl⟩:=ry;exact PySem.EqNone.eq_none_str (zy I q (by simp))
  |_=>exact absurd (show false=true from hs) Bool.false_ne_true
 |bl i=>
  cases rx
  cases y with
  |non=>cases ry;exact PySem.EqNone.eq_bool_none (zy I q (by simp))
  |bl j=>cases ry;exact eq_bool (zy I q zex)
  |str j=>obtain⟨t',rfl⟩:=ry;exact PySem.EqMixed.eq_bool_str (zy I q (by simp))
  |_=>exact absurd (show false=true from hs) Bool.false_ne_true
 |int i=>
  obtain⟨t,rfl⟩:=rx
  cases y with
  |non=>cases ry;exact PySem.EqNone.eq_int_none (zy I q (by simp))
  |int j=>obtain⟨t',rfl⟩:=ry;exact eq_int (zy I q zcb)
  |str j=>obtain⟨t',rfl⟩:=ry;exact PySem.EqMixed.eq_int_str (zy I q (by simp))
  |_=>exact absurd (show false=true from hs) Bool.false_ne_true
 |str i=>
  obtain⟨t,rfl⟩:=rx
  cases y with
  |non=>cases ry;exact PySem.EqNone.eq_str_none (zy I q (by simp))
  |bl j=>cases ry;exact PySem.EqMixed.eq_str_bool (zy I q (by simp))
  |int j=>obtain⟨t',rfl⟩:=ry;exact PySem.EqMixed.eq_str_int (zy I q (by simp))
  |str j=>obtain⟨t',rfl⟩:=ry;exact eq_str (zy I q zca)
  |_=>exact absurd (show false=true from hs) Bool.false_ne_true
 |byt i=>
  obtain⟨t,rfl⟩:=rx
  cases y with
  |byt j=>obtain⟨t',rfl⟩:=ry;exact PySem.W.eq_bytes (zy I q zcc)
  |_=>exact absurd (show false=true from hs) Bool.false_ne_true
 |_=>cases y<;>exact absurd (show false=true from hs) Bool.false_ne_true
theorem yG:OpR X (compareOp .NotEq) rNe:=by
 intro pins s σ H x y v u Q I rx ry h
 obtain⟨hs,q⟩:=h
 cases x with
 |non=>
  cases rx
  cases y with
  |non=>cases ry;exact PySem.EqNone.ne_none_none (zy I q (by simp))
  |bl j=>cases ry;exact PySem.EqNone.ne_none_bool (zy I q (by simp))
  |int j=>obtain⟨t',rfl⟩:=ry;exact PySem.EqNone.ne_none_int (zy I q (by simp))
  |str j=>obtain⟨t',rfl⟩:=ry;exact PySem.EqNone.ne_none_str (zy I q (by simp))
  |_=>exact absurd (show false=true from hs) Bool.false_ne_true
 |bl i=>
  cases rx
  cases y with
  |non=>cases ry;exact PySem.EqNone.ne_bool_none (zy I q (by simp))
  |bl j=>cases ry;exact ne_bool (zy I q (congrArg not zex))
  |str j=>obtain⟨t',rfl⟩:=ry;exact PySem.EqMixed.ne_bool_str (zy I q (by simp))
  |_=>exact absurd (show false=true from hs) Bool.false_ne_true
 |int i=>
  obtain⟨t,rfl⟩:=rx
  cases y with
  |non=>cases ry;exact PySem.EqNone.ne_int_none (zy I q (by simp))
  |int j=>obtain⟨t',rfl⟩:=ry;exact ne_int (zy I q (congrArg not zcb))
  |str j=>obtain⟨t',rfl⟩:=ry;exact PySem.EqMixed.ne_int_str (zy I q (by simp))
  |_=>exact absurd (show false=true from hs) Bool.false_ne_true
 |str i=>
  obtain⟨t,rfl⟩:=rx
  cases y with
  |non=>cases ry;exact PySem.EqNone.ne_str_none (zy I q (by simp))
  |bl j=>cases ry;exact PySem.EqMixed.ne_str_bool (zy I q (by simp))
  |int j=>obtain⟨t',rfl⟩:=ry;exact PySem.EqMixed.ne_str_int (zy I q (by simp))
  |str j=>obtain⟨t',rfl⟩:=ry;exact ne_str (zy I q (congrArg not zca))
  |_=>exact absurd (show false=true from hs) Bool.false_ne_true
 |byt i=>
  obtain⟨t,rfl⟩:=rx
  cases y with
  |byt j=>obtain⟨t',rfl⟩:=ry;exact PySem.W.ne_bytes (zy I q (congrArg not zcc))
  |_=>exact absurd (show false=true from hs) Bool.false_ne_true
 |_=>cases y<;>exact absurd (show false=true from hs) Bool.false_ne_true
theorem gu:OpR X (compareOp .Lt) (rI0 fun i j=>.bl (decide (i<j))):=zfc fun _ _ _ _ _ _ _ q=>lt_int q
theorem gw:OpR X (compareOp .LtE) (rI0 fun i j=>.bl (decide (i≤j))):=zfc fun _ _ _ _ _ _ _ q=>le_int q
theorem zfU:OpR X (compareOp .Gt) (rI0 fun i j=>.bl (decide (j<i))):=zfc fun _ _ _ _ _ _ _ q=>gt_int q
theorem zht:OpR X (compareOp .GtE) (rI0 fun i j=>.bl (decide (j≤i))):=zfc fun _ _ _ _ _ _ _ q=>ge_int q
theorem bp:OpR X (compareOp .In) (fun x y H Q=>∃i j,x=.str i∧y=.str j∧Q (.bl (!(Builtin.Str.occurrences j i 0 j.length 1).isEmpty)) H):=by
 intro pins s σ H x y v u Q I rx ry h
 obtain⟨i,j,rfl,rfl,q⟩:=h
 obtain⟨t,rfl⟩:=rx
 obtain⟨t',rfl⟩:=ry
 exact in_str (zy I q rfl)
theorem zd3:OpR X (compareOp .Is) (fun x y H Q=>y=.non∧Q (.bl (decide (x=.non))) H):=by
 intro pins s σ H x y v u Q I rx ry h
 obtain⟨rfl,q⟩:=h
 cases ry
 refine is_none_gen (zy I q ?_)
 cases x<;>first
  |(cases rx;rfl)
  |(obtain⟨t,rfl⟩:=rx;rfl)
theorem OpR.or {f:Value→Value→Sem Value}{r r':R2}(h:OpR X f r)(h':OpR X f r'):OpR X f (fun x y H Q=>r x y H Q∨r' x y H Q):=by
 intro pins s σ H x y v u Q I rx ry q
 rcases q with q|q
 ·exact h pins s σ H x y v u Q I rx ry q
 ·exact h' pins s σ H x y v u Q I rx ry q
theorem zx (b:Expr){op:CmpOp}(h:op≠.In:=by decide)(h2:op≠.NotIn:=by decide):behindInMarks op b=false:=by
 have e1:(op==CmpOp.In)=false:=by cases op<;>first|rfl|exact absurd rfl h
 have e2:(op==CmpOp.NotIn)=false:=by cases op<;>first|rfl|exact absurd rfl h2
 cases b<;>simp[behindInMarks,e1,e2]
theorem xv {op:CmpOp}{r:R2}(ho:OpR X (compareOp op) r)(ha:PE X a ta)(hb:PE X b tb)(hm:behindInMarks op b=false):PE X (.Compare a [op] [b] pos) (tOp r ta tb):=by
 intro pins s σ H Q I h
 exact wpAny_Compare1 (zgK ha hb I h fun v u s2 x y H2 I2 rx ry q=>ho pins s2 σ H2 x y v u Q I2 rx ry q) hm
def zfI (t:TE):TT:=fun σ H Q=>t σ H fun x H'=>∃k,x=.bl k∧Q k H'
theorem zw {op:CmpOp}{r:R2}(ho:OpR X (compareOp op) r)(ha:PE X a ta)(hb:PE X b tb)(hm:behindInMarks op b=false):PT X (.Compare a [op] [b] pos) (zfI (tOp r ta tb)):=by
 intro pins s σ H Q I h
 refine wpAny_isTrue_Compare1 (thn (ha pins s σ H _ I h) fun v s1 ⟨x,H1,I1,r1,q1⟩=>thn (hb pins s1 σ H1 _ I1 q1) fun u s2 ⟨y,H2,I2,r2,q2⟩=>
  thn (ho pins s2 σ H2 x y v u _ I2 r1 r2 q2) fun c s3 ⟨z,H3,I3,r3,k,e,q3⟩=>?_) hm
 subst e
 cases r3
 exact wpAny_truthy_bool ⟨H3,I3,q3⟩
def zdo (r r':R2)(ta tb tc:TE):TE:=fun σ H Q=>ta σ H fun x H1=>tb σ H1 fun y H2=>r x y H2 fun z H3=>∃k,z=.bl k∧
 (if k=true then tc σ H3 fun w' H4=>r' y w' H4 Q else Q (.bl false) H3)
theorem zdS {op op':CmpOp}{r r':R2}(ho:OpR X (compareOp op) r)(ho':OpR X (compareOp op') r')(ha:PE X a ta)(hb:PE X b tb)(hc:PE X c tc)
 (hm:lastMarks [op,op'] [b,c]=false:=by with_unfolding_all rfl):PE X (.Compare a [op,op'] [b,c] pos) (zdo r r' ta tb tc):=by
 intro pins s σ H Q I h
 refine Compare_chain (thn (ha pins s σ H _ I h) fun v s1 ⟨x,H1,I1,r1,q1⟩=>chain_link (thn (hb pins s1 σ H1 _ I1 q1) fun u s2 ⟨y,H2,I2,r2,q2⟩=>
  thn (ho pins s2 σ H2 x y v u _ I2 r1 r2 q2) fun d s3 ⟨z,H3,I3,r3,k,e,q3⟩=>?_)) hm
 subst e
 cases r3
 refine wpAny_truthy_bool ?_
 cases k with
 |false=>exact ite_ff ⟨.bl false,H3,I3,rfl,q3⟩
 |true=>exact ite_tt (chain_last (thn (hc pins s3 σ H3 _ I3 q3) fun w' s4 ⟨z',H4,I4,r4,q4⟩=>ho' pins s4 σ H4 y z' u w' Q I4 r2 r4 q4))
theorem wJ {op op':CmpOp}{r r':R2}(ho:OpR X (compareOp op) r)(ho':OpR X (compareOp op') r')(ha:PE X a ta)(hb:PE X b tb)(hc:PE X c tc)
 (hm:lastMarks [op,op'] [b,c]=false:=by with_unfolding_all rfl):PT X (.Compare a [op,op'] [b,c] pos) (zfI (zdo r r' ta tb tc)):=by
 intro pins s σ H Q I h
 refine isTrue_chain (thn (ha pins s σ H _ I h) fun v s1 ⟨x,H1,I1,r1,q1⟩=>test_link (thn (hb pins s1 σ H1 _ I1 q1) fun u s2 ⟨y,H2,I2,r2,q2⟩=>
  thn (ho pins s2 σ H2 x y v u _ I2 r1 r2 q2) fun d s3 ⟨z,H3,I3,r3,k,e,q3⟩=>?_)) hm
 subst e
 cases r3
 refine wpAny_truthy_bool ?_
 cases k with
 |false=>
  obtain⟨k',e',q'⟩:=q3
  cases e'
  exact ite_ff ⟨H3,I3,q'⟩
 |true=>
  refine ite_tt (test_last (thn (hc pins s3 σ H3 _ I3 q3) fun w' s4 ⟨z',H4,I4,r4,q4⟩=>thn (ho' pins s4 σ H4 y z' u w' _ I4 r2 r4 q4) fun d' s5 ⟨z2,H5,I5,r5,k2,e2,q5⟩=>?_))
  subst e2
  cases r5
  exact wpAny_truthy_bool ⟨H5,I5,q5⟩
theorem yt:(sizeLine:Nat)<2^63:=by rw[sizeLine_eq];decide
theorem zh:OpR X (binaryOp .Add) (fun x y H Q=>∃i j,x=.str i∧y=.str j∧i.length+j.length≤sizeLine∧Q (.str (i++j)) H):=by
 intro pins s σ H x y v u Q I rx ry h
 obtain⟨i,j,rfl,rfl,hz,q⟩:=h
 obtain⟨t,rfl⟩:=rx
 obtain⟨t',rfl⟩:=ry
 exact add_str (fun t' tk=>⟨.str (i++j),H,I.tok _,⟨_,rfl⟩,q⟩) hz
theorem vals1 {x:V}{us:List Value}(r:Vals [x] us):∃u,us=[u]∧RelV x u:=by
 cases r with
 |cons r1 r2=>cases r2;exact⟨_,rfl,r1⟩
theorem vals2 {x y:V}{us:List Value}(r:Vals [x,y] us):∃u w',us=[u,w']∧RelV x u∧RelV y w':=by
 cases r with
 |cons r1 r2=>
  cases r2 with
  |cons r3 r4=>cases r4;exact⟨_,_,rfl,r1,r3⟩
theorem zez:CallR X (.builtin "abs") (fun xs H Q=>∃i,xs=[.int i]∧Q (.int (if i<0 then -i else i)) H):=by
 intro pins s σ H xs us Q I r h
 obtain⟨i,rfl,q⟩:=h
 obtain⟨u,rfl,t,rfl⟩:=vals1 r
 exact call_abs_int fun u tk=>⟨.int (if i<0 then -i else i),H,I.tok _,⟨_,rfl⟩,q⟩
theorem zc3 (hc:X.calm=true):CallR X (.builtin "max") (fun xs H Q=>∃i j,xs=[.int i,.int j]∧Q (.int (if j>i then j else i)) H):=by
 intro pins s σ H xs us Q I r h
 obtain⟨i,j,rfl,q⟩:=h
 obtain⟨u,w',rfl,⟨t,rfl⟩,⟨t',rfl⟩⟩:=vals2 r
 refine max_two_ints (I.ok.hd hc) fun h' tk k=>⟨_,H,I.kept k,?_,q⟩
 by_cases hj:j>i
 ·rw[if_pos hj,if_pos hj];exact⟨_,rfl⟩
 ·rw[if_neg hj,if_neg hj];exact⟨_,rfl⟩
theorem zc2 (hc:X.calm=true):CallR X (.builtin "min") (fun xs H Q=>∃i j,xs=[.int i,.int j]∧Q (.int (if j<i then j else i)) H):=by
 intro pins s σ H xs us Q I r h
 obtain⟨i,j,rfl,q⟩:=h
 obtain⟨u,w',rfl,⟨t,rfl⟩,⟨t',rfl⟩⟩:=vals2 r
 refine min_two_ints (I.ok.hd hc) fun h' tk k=>⟨_,H,I.kept k,?_,q⟩
 by_cases hj:j<i
 ·rw[if_pos hj,if_pos hj];exact⟨_,rfl⟩
 ·rw[if_neg hj,if_neg hj];exact⟨_,rfl⟩
theorem yd:CallR X (.type "str") (fun xs H Q=>∃i,xs=[.int i]∧i.natAbs.log2<1920∧Q (.str (toString i)) H):=by
 intro pins s σ H xs us Q I r h
 obtain⟨i,rfl,hz,q⟩:=h
 obtain⟨u,rfl,t,rfl⟩:=vals1 r
 exact PySem.P.str_of_int hz ⟨.str _,H,I.tok _,⟨_,rfl⟩,q⟩
end
end
section
structure ObjM (h:Heap)(x dx C:Addr)(mA:Str→Option Value):Prop where
 obj:h.get? x=some (PySem.W.instObj C dx)
 ns:h.Ns1 dx mA
 ne:dx≠x
theorem zcK {h:Heap}{dx:Addr}{mA:Str→Option Value}(n:h.Ns1 dx mA):∃od,h.get? dx=some od∧∀name,PySem.W.lookIn name od=some (mA name):=by
 obtain⟨o,es,ep,ho,hd,hk,_,hm⟩:=n
 refine⟨o,ho,fun name=>?_⟩
 have e:=hm name
 unfold nsFind findBy at e
 rw[←Array.find?_toList] at e
 unfold PySem.W.lookIn
 rw[hd]
 dsimp only
 split
 ·rename_i y q
  rw[q] at e
  exact congrArg some e
 ·rename_i q
  rw[q] at e
  have a:es.toList.any (·.refKey)=false:=by
   rw[List.any_eq_false]
   intro y hy
   obtain⟨z,t,hkey⟩:=hk y (Array.mem_toList_iff.mp hy)
   simp[DictEntry.refKey,hkey]
  have a':¬es.toList.any (·.refKey)=true:=by rw[a];exact Bool.false_ne_true
  rw[if_neg a']
  exact congrArg some e
theorem ObjM.look {h:Heap}{x dx C:Addr}{mA:Str→Option Value}(I:ObjM h x dx C mA):∃od,PySem.W.InstAt h x (PySem.W.instObj C dx) C (some od)∧∀name,PySem.W.lookIn name od=some (mA name):=
 let ⟨od,ho,hl⟩:=zcK I.ns
 ⟨od,⟨I.obj,rfl,rfl,ho⟩,hl⟩
section
variable {prog:Program}{w:World}{A:Around}{E:Value→Shared→Prop}{s:Shared}{K:PySem.W.Frag}{x dx C f:Addr}{mA:Str→Option Value}{name:Str}{v:Value}
theorem get_map {expr:Bool}{Q:Value→Shared→Prop}(X:K.In s.heap)(I:ObjM s.heap x dx C mA)(hg:PySem.W.plainGet K C name=true)(hh:PySem.W.hasDictIn K C=true)
 (ha:PySem.W.findIn K (.ref C) name=some none) (hv:mA name=some v) (hv':PySem.W.handedIn v=true) (h:Q v { s with toks:=s.toks+1 }) :
 wpAny (model prog w) A (getAttr (.ref x) name expr) Q E s:=by
 obtain⟨od,J,hl⟩:=I.look
 exact PySem.W.get_value X J (PySem.W.plainGet_of hg).1 (PySem.W.findObj_own hh ha rfl (by rw[hl,hv])) hv' h
theorem zen {pl:Sem Bool}{Q:Value×List Value→Shared→Prop}(X:K.In s.heap)(I:ObjM s.heap x dx C mA)(hg:PySem.W.plainGet K C name=true)
 (hf:PySem.W.findIn K (.ref C) name=some (some (.ref f))) (ht:PySem.W.isFn K (.ref f)=true) (hv:mA name=none) (h:Q (.ref f,[.ref x]) s) :
 wpAny (model prog w) A (getMethod (.ref x) name pl) Q E s:=by
 obtain⟨od,J,hl⟩:=I.look
 exact PySem.W.method_fn X J (PySem.W.plainGet_of hg).1 (PySem.W.plainGet_of hg).2 hf (beq_iff_eq.mp ht) (by show(PySem.W.lookIn name od).map (·.isSome)=some false;rw[hl,hv];rfl) h
theorem zeV {ns:List Str}{Q:Unit→Shared→Prop}(X:K.In s.heap)(I:ObjM s.heap x dx C mA)
 (hs:PySem.W.findIn K (.ref C) "__setattr__"=some (some (.builtin "object.__setattr__"))) (hp:PySem.W.plainOver K C=true) (ht:PySem.W.takerIn K C name=some none) (hh:PySem.W.hasDictIn K C=true)
 (hw:PySem.Within mA ns) (hsz:ns.length≤sizeLine)
 (h:∀h',ObjM h' x dx C (fun y=>if y=name then some v else mA y)→Heap.SameBut dx s.heap h'→Q () { s with heap:=h',toks:=s.toks+2 }) :
 wpAny (model prog w) A (setAttr (.ref x) name v) Q E s:=by
 obtain⟨od,J,hl⟩:=I.look
 refine PySem.W.set_plain X J hs (PySem.W.osa_open (s:={ s with toks:=s.toks+1 }) (r:=none) X J hp ht fun b=>?_)
 obtain⟨cd,hc,hd'⟩:=PySem.W.any_some hh
 have hx:s.heap.get? x=some ⟨.ref C,some dx,.plain,#[]⟩:=I.obj
 refine wpAny_bind (wpAny_pure (wpAny_bind (wpAny_bind (wpAny_loadPart hx (wpAny_bind (PySem.W.Looks.here (s:={ s with toks:=s.toks+1 }) (PySem.W.looks_clsIn X hc) ?_))))))
 rw[hd']
 refine wpAny_pure (a:=some dx) (wpAny_bind (wpAny_pure (wpAny_bind ?_)))
 refine wpAny_nsSet1 (s:={ s with toks:=s.toks+1 }) I.ns fun h' hn2 hs2=>?_
 obtain⟨oD,esD,epD,hoD,hdD,hcD⟩:=hn2.count (PySem.Within.cons name v hw)
 refine wpAny_bind (wpAny_lookBehind hoD (by rw[hdD];exact pastItsLine_dict (Nat.le_trans hcD (by rw[List.length_cons];omega))) ?_)
 exact wpAny_pure (h _ ⟨(hs2.2 _ (Ne.symm I.ne)).trans I.obj,hn2,I.ne⟩ hs2)
theorem zef {R:Result→Shared→Prop}{vs:List Value}{kw:List (Str×Value)}(X:K.In s.heap)(hm:PySem.W.makesIn K C=true)
 (hi:PySem.W.findIn K (.ref C) "__init__"=some (some (.ref f))) (hf:PySem.W.typeIn K (.ref f)=some (.type "function"))
 (h:codeAny (model prog w) (A.under (.builtin "type.__call__" ⟨.ref C::vs,kw⟩)) (.call (.ref f) ⟨.ref (s.heap.objs.size+1)::vs,kw⟩) (PySem.W.InitBack (s.heap.objs.size+1) R)
   { s with heap:=(s.heap.push PySem.W.emptyDict).push (PySem.W.instObj C s.heap.objs.size) }) :
 codeAny (model prog w) A (.call (.ref C) ⟨vs,kw⟩) R s:=by
 obtain⟨hh,g,d,t,os⟩:=s
 exact PySem.W.make_core (PySem.W.makes_of X hm) (PySem.W.looks_findIn X hi) (fun self=>PySem.W.bind_fn X self hf) (.inl rfl) h
end
def xC (f:Str)(v:V):List (Str×V)→List (Str×V)
 |[]=>[(f,v)]
 |(g,x)::r=>if g=f then(g,v)::r else(g,x)::xC f v r
theorem yI (f g:Str)(v:V):∀fs:List (Str×V),(xC f v fs).lookup g=if g=f then some v else fs.lookup g
 |[]=>by
  show List.lookup g [(f,v)]=_
  by_cases h:g=f
  ·have hb:(g==f)=true:=beq_iff_eq.mpr h
   simp only[List.lookup,hb,if_pos h]
  ·have hb:(g==f)=false:=beq_eq_false_iff_ne.mpr h
   simp only[List.lookup,hb,if_neg h]
 |(k,x)::r=>by
  have ih:=yI f g v r
  rw[show xC f v ((k,x)::r)=(if k=f then(k,v)::r else(k,x)::xC f v r) from rfl]
  by_cases hk:k=f
  ·rw[if_pos hk]
   by_cases h:g=k
   ·have hb:(g==k)=true:=beq_iff_eq.mpr h
    simp only[List.lookup,hb,if_pos (h.trans hk)]
   ·have hb:(g==k)=false:=beq_eq_false_iff_ne.mpr h
    simp only[List.lookup,hb,if_neg (fun e:g=f=>h (e.trans hk.symm))]
  ·rw[if_neg hk]
   by_cases h:g=k
   ·have hb:(g==k)=true:=beq_iff_eq.mpr h
    simp only[List.lookup,hb,if_neg (fun e:g=f=>hk (h.symm.trans e))]
   ·have hb:(g==k)=false:=beq_eq_false_iff_ne.mpr h
    simp only[List.lookup,hb]
    exact ih
theorem yu (f:Str)(v:V):∀fs:List (Str×V),f∈(xC f v fs).map (·.1)∧∀g,g∈fs.map (·.1)→g∈(xC f v fs).map (·.1)
 |[]=>⟨by simp[xC],fun g h=>by simp at h⟩
 |(k,x)::r=>by
  obtain⟨i1,i2⟩:=yu f v r
  rw[show xC f v ((k,x)::r)=(if k=f then(k,v)::r else(k,x)::xC f v r) from rfl]
  by_cases hk:k=f
  ·rw[if_pos hk]
   subst hk
   exact⟨by simp,fun g h=>by simpa using h⟩
  ·rw[if_neg hk]
   refine⟨?_,fun g h=>?_⟩
   ·rw[List.map_cons]
    exact List.mem_cons_of_mem _ i1
   ·rw[List.map_cons] at h ⊢
    rcases List.mem_cons.mp h with e|e
    ·exact List.mem_cons.mpr (.inl e)
    ·exact List.mem_cons_of_mem _ (i2 g e)
theorem yL (f:Str)(v:V):∀fs:List (Str×V),(xC f v fs).length≤fs.length+1
 |[]=>by simp[xC]
 |(k,x)::r=>by
  have ih:=yL f v r
  rw[show xC f v ((k,x)::r)=(if k=f then(k,v)::r else(k,x)::xC f v r) from rfl]
  by_cases hk:k=f
  ·rw[if_pos hk,List.length_cons,List.length_cons];omega
  ·rw[if_neg hk,List.length_cons,List.length_cons];omega
theorem RelO.some_of {v:V}{o:Option Value}(r:RelO (some v) o):∃u,o=some u∧RelV v u:=by
 cases o with
 |none=>exact(show False from r).elim
 |some u=>exact⟨u,rfl,r⟩
theorem RelO.none_of {o:Option Value}(r:RelO none o):o=none:=by
 cases o with
 |none=>rfl
 |some u=>exact(show False from r).elim
theorem zcT {v:V}{u:Value}(r:RelV v u):PySem.W.handedIn u=true:=by
 cases v with
 |non=>cases(show u=Value.none from r);rfl
 |bl b=>cases(show u=Value.bool b from r);rfl
 |int i=>obtain⟨t,e⟩:=(show ∃t,u=Value.int i t from r);cases e;rfl
 |str x=>obtain⟨t,e⟩:=(show ∃t,u=Value.str x t from r);cases e;rfl
 |byt b=>obtain⟨t,e⟩:=(show ∃t,u=Value.bytes b t from r);cases e;rfl
 |tst x t=>cases(show u=Value.str x t from r);rfl
 |ref a=>cases(show u=Value.ref a from r);rfl
 |ty n=>cases(show u=Value.type n from r);rfl
section
variable {P:Program}{w:World}{H H':Hp}{h h':Heap}{a C dx:Addr}{fs fs':List (Str×V)}
theorem dM (hok:HOk P w H h)(e:H a=some (.ins C dx fs)):∃mA,ObjM h a dx C mA∧(∀f,RelO (fs.lookup f) (mA f))∧PySem.Within mA (fs.map (·.1))∧fs.length≤1000∧H dx=some (.own a):=by
 obtain⟨d,z,ne,ob,mA,n,r,q⟩:=(show ObjOk P w H h a (.ins C dx fs) from hok a _ e)
 exact⟨mA,⟨ob,n,ne⟩,r,q,z,d⟩
end
structure Cls (K:PySem.W.Frag)(C:Addr):Prop where
 pg:PySem.W.plainGet K C Str.empty=true
 hd:PySem.W.hasDictIn K C=true
 po:PySem.W.plainOver K C=true
 sa:PySem.W.findIn K (.ref C) "__setattr__"=some (some (.builtin "object.__setattr__"))
theorem Cls.get {K:PySem.W.Frag}{C:Addr}(c:Cls K C)(f:Str):PySem.W.plainGet K C f=true:=c.pg
def NoAttr (K:PySem.W.Frag)(C:Addr)(f:Str):Prop:=PySem.W.findIn K (.ref C) f=some none
theorem NoAttr.taker {K:PySem.W.Frag}{C:Addr}{f:Str}(n:NoAttr K C f):PySem.W.takerIn K C f=some none:=by
 unfold PySem.W.takerIn
 rw[show PySem.W.findIn K (.ref C) f=some none from n]
 rfl
structure zgN (K:PySem.W.Frag)(C:Addr)(m:Str)(f:Addr):Prop where
 at_:PySem.W.findIn K (.ref C) m=some (some (.ref f))
 fn:PySem.W.isFn K (.ref f)=true
 kp:PySem.W.keepIn K (.ref f)=true
section
variable {X:Cx}{pins:List (Addr×Obj)}{σ:St}{H:Hp}{s:Shared}{a C dx:Addr}{fs:List (Str×V)}{f:Str}{v:V}{A:Around}{E:Value→Shared→Prop}
theorem za7 {b:Bool}{Q:Value→Shared→Prop}(I:Inv X pins σ H s)(e:H a=some (.ins C dx fs))(c:Cls X.K C)(n:NoAttr X.K C f)(l:fs.lookup f=some v)
 (h:∀u s',Inv X pins σ H s'→RelV v u→Q u s'):wpAny (model X.prog X.w) A (getAttr (.ref a) f b) Q E s:=by
 obtain⟨mA,O,r,_,_,_⟩:=dM I.hok e
 obtain⟨u,hu,ru⟩:=RelO.some_of (v:=v) (o:=mA f) (by rw[←l];exact r f)
 exact get_map I.kIn O (c.get f) c.hd n hu (zcT ru) (h u _ (I.tok _) ru)
theorem za6 {m:Str}{g:Addr}{pl:Sem Bool}{Q:Value×List Value→Shared→Prop}(I:Inv X pins σ H s)(e:H a=some (.ins C dx fs))(c:Cls X.K C)(k:zgN X.K C m g)(l:fs.lookup m=none)
 (h:Q (.ref g,[.ref a]) s):wpAny (model X.prog X.w) A (getMethod (.ref a) m pl) Q E s:=by
 obtain⟨mA,O,r,_,_,_⟩:=dM I.hok e
 have hn:mA m=none:=RelO.none_of (by rw[←l];exact r m)
 exact zen I.kIn O (c.get m) k.at_ k.fn hn h
theorem zaM {y:V}{u:Value}{Q:Unit→Shared→Prop}(I:Inv X pins σ H s)(e:H a=some (.ins C dx fs))(c:Cls X.K C)(n:NoAttr X.K C f)(hl:fs.length<1000)(ry:RelV y u)
 (h:∀s',Inv X pins σ (upd H a (.ins C dx (xC f y fs))) s'→Q () s'):wpAny (model X.prog X.w) A (setAttr (.ref a) f u) Q E s:=by
 obtain⟨mA,O,r,wi,_,ho⟩:=dM I.hok e
 have hz:(fs.map (·.1)).length≤sizeLine:=by rw[List.length_map,sizeLine_eq];omega
 refine zeV I.kIn O c.sa c.po n.taker c.hd wi hz fun h' O' sb=>h _ ?_
 have hd:∃o,h'.get? dx=some o:=let ⟨o,_,_,e',_⟩:=O'.ns;⟨o,e'⟩
 refine I.write (x:=a) (e:=dx) (by rw[e];exact True.intro) (.inr ho) (fun b q hb z=>(sb.2 b hb).trans z) hd ?_
 refine⟨by rw[zf O.ne];exact ho,?_,O.ne,O'.obj,_,O'.ns,fun g=>?_,fun g hg=>?_⟩
 ·have:=yL f y fs;omega
 ·show RelO ((xC f y fs).lookup g) (if g=f then some u else mA g)
  rw[yI]
  by_cases q:g=f
  ·rw[if_pos q,if_pos q];exact ry
  ·rw[if_neg q,if_neg q];exact r g
 ·by_cases q:g=f
  ·rw[q];exact(yu f y fs).1
  ·refine(yu f y fs).2 g (wi g fun z=>hg ?_)
   show(if g=f then some u else mA g)=none
   rw[if_neg q];exact z
theorem Inv.made (I:Inv X pins σ H s):Inv X pins σ (upd (upd H s.heap.objs.size (.own (s.heap.objs.size+1))) (s.heap.objs.size+1) (.ins C s.heap.objs.size []))
 { s with heap:=(s.heap.push PySem.W.emptyDict).push (PySem.W.instObj C s.heap.objs.size) }:=by
 have e1:(s.heap.push PySem.W.emptyDict).get? s.heap.objs.size=some PySem.W.emptyDict:=Heap.get?_push_size s.heap rfl
 have e2:((s.heap.push PySem.W.emptyDict).push (PySem.W.instObj C s.heap.objs.size)).get? (s.heap.objs.size+1)=some (PySem.W.instObj C s.heap.objs.size):=by
  have:=Heap.get?_push_size (s.heap.push PySem.W.emptyDict) (o:=PySem.W.instObj C s.heap.objs.size) rfl
  rwa [Heap.size_push] at this
 have e3:(s.heap.push PySem.W.emptyDict).Ns s.heap.objs.size (fun _=>none):=⟨PySem.W.emptyDict,#[],_,e1,rfl,(fun e he=>absurd he (by simp)),fun _=>rfl⟩
 have I1:=I.laid (a:=s.heap.objs.size) (o:=.own (s.heap.objs.size+1)) (h':=s.heap.push PySem.W.emptyDict) (t':=s.toks) (fun b u q=>Heap.get?_push_of_some _ q) (Nat.le_refl _) ⟨_,e1⟩
 refine I1.laid (a:=s.heap.objs.size+1) (o:=.ins C s.heap.objs.size []) (t':=s.toks) (fun b u q=>Heap.get?_push_of_some _ q) (Nat.le_of_eq (Heap.size_push _ _)) ?_
 have ne:s.heap.objs.size≠s.heap.objs.size+1:=Nat.ne_of_lt (Nat.lt_succ_self _)
 refine⟨by rw[zf ne,zb],Nat.zero_le _,ne,e2,fun _=>none,(Heap.Ns1.of_empty e3).at fun o q=>Heap.get?_push_of_some _ q,fun _=>True.intro,fun y hy=>absurd rfl hy⟩
theorem zfB {prog:Program}{w:World}{env:Env}{e:Expr}{f:Str}{pos:Pos}{s:Shared}{Q:Value→Shared→Prop}(hb:attributeBase e f env (eval e env)=eval e env)
 (h:wpAny (model prog w) A (eval e env) (fun o s₁=>wpAny (model prog w) A (getAttr o f true) Q E s₁) E s):wpAny (model prog w) A (eval (.Attribute e f pos) env) Q E s:=
 Attribute_any_ h (by rw[arm_eval_Attribute,hb])
end
def zh5 (K:PySem.W.Frag)(ta:TE)(f:Str):TE:=fun σ H Q=>ta σ H fun x H1=>∃a C dx fs v,x=.ref a∧H1 a=some (.ins C dx fs)∧Cls K C∧NoAttr K C f∧fs.lookup f=some v∧Q v H1
def zh8 (K:PySem.W.Frag)(ta tv:TE)(f:Str):TS:=fun D σ H=>tv σ H fun y H1=>ta σ H1 fun x H2=>∃a C dx fs,x=.ref a∧H2 a=some (.ins C dx fs)∧Cls K C∧NoAttr K C f∧fs.length<1000∧
 D.nx σ (upd H2 a (.ins C dx (xC f y fs)))
section
variable {X:Cx}{o e value:Expr}{f:Str}{pos pos' tpos:Pos}{ta tv:TE}
theorem dr (he:PE X e ta)(hb:attributeBase e f X.env (eval e X.env)=eval e X.env):PE X (.Attribute e f pos) (zh5 X.K ta f):=by
 intro pins s σ H Q I h
 refine zfB hb (thn (he pins s σ H _ I h) fun u s1 ⟨x,H1,I1,rx,a,C,dx,fs,v,ex,ea,c,n,l,q⟩=>?_)
 subst ex
 obtain rfl:u=Value.ref a:=rx
 exact za7 I1 ea c n l fun u' s2 I2 ru=>⟨v,H1,I2,ru,q⟩
theorem zgn (ha:PE X o ta)(hv:PE X value tv)(hs:swapsWith value (some (.Attribute o f pos')) pos.line X.env=pure false):PS X (.Assign [.Attribute o f pos'] value pos) (zh8 X.K ta tv f):=by
 intro pins s σ H D I h
 refine plainObj_wpAny_Assign_Attribute (thn (hv pins s σ H _ I h) fun u s1 ⟨y,H1,I1,ry,q⟩=>thn (ha pins s1 σ H1 _ I1 q) fun ov s2 ⟨x,H2,I2,rx,a,C,dx,fs,ex,ea,c,n,l,q2⟩=>?_) hs
 subst ex
 obtain rfl:ov=Value.ref a:=rx
 exact zaM I2 ea c n l ry fun s3 I3=>⟨σ,_,I3,q2⟩
end
section
variable {X:Cx}{pins:List (Addr×Obj)}{σ:St}{H:Hp}{s:Shared}{A:Around}{E:Value→Shared→Prop}{Q:Value→Shared→Prop}{c:Value}{b:Bool}
end
end
section
structure Room (k:Nat)(A:Around):Prop where
 hd:A.handled=none
 dp:A.depth+3*k+5<recursionLimit
 un:A.units+16*k+200<cLine
theorem Room.mono {j k:Nat}{A:Around}(r:Room k A)(h:j≤k):Room j A:=⟨r.hd,by have:=r.dp;omega,by have:=r.un;omega⟩
theorem Room.deeper {k:Nat}{A:Around}(r:Room (k+1) A)(env:Env):Room k (A.deeper env):=
 ⟨r.hd,by have:=r.dp;show A.depth+1+3*k+5<_;omega,by have:=r.un;show A.units+3+16*k+200<_;omega⟩
theorem Room.in1 {k:Nat}{A:Around}(r:Room (k+1) A):Room k A.in1:=
 ⟨r.hd,by have:=r.dp;show A.depth+3*k+5<_;omega,by have:=r.un;show A.units+1+16*k+200<_;omega⟩
theorem za3 {A:Around}{C:Addr}{us:List Value}{kw:List (Str×Value)}:(A.under (.builtin "type.__call__" ⟨.ref C::us,kw⟩)).depth=A.depth+1:=by
 first|rfl|simp[Around.under,Code.weight,Code.isCreation,Code.isGuard,Code.isCaller,Code.frames,Code.isFrame,guardIds]
theorem za2 {A:Around}{C:Addr}{us:List Value}{kw:List (Str×Value)}:(A.under (.builtin "type.__call__" ⟨.ref C::us,kw⟩)).units=A.units+1:=by
 first|rfl|simp[Around.under,Code.cUnits,Code.frames,Code.isFrame]
theorem Room.make {k:Nat}{A:Around}(r:Room (k+1) A)(C:Addr)(us:List Value)(kw:List (Str×Value)):Room k (A.under (.builtin "type.__call__" ⟨.ref C::us,kw⟩)):=
 ⟨r.hd,by have:=r.dp;rw[za3];omega,by have:=r.un;rw[za2];omega⟩
theorem Room.depth {k:Nat}{A:Around}(r:Room k A):A.depth<recursionLimit:=by have:=r.dp;omega
theorem Room.units {k:Nat}{A:Around}(r:Room k A):A.units+64<cLine:=by have:=r.un;omega
theorem Room.units0 {k:Nat}{A:Around}(r:Room k A):A.units<cLine:=by have:=r.un;omega
def yh:TA:=fun _ H Q=>Q [] H
def j5 (ta:TE)(tr:TA):TA:=fun σ H Q=>ta σ H fun x H1=>tr σ H1 fun xs H2=>Q (x::xs) H2
section
variable {X:Cx}{e:Expr}{es:List Expr}{te:TE}{t:TA}{pos:Pos}
theorem pa_nil:PA X [] yh:=fun _ _ _ _ H Q I h=>Calls.spliced_nil ⟨[],H,I,.nil,h⟩
theorem za (ha:PE X e te)(hr:PA X es t)(hs:starEach (e::es) X.env=(false,eval e X.env)::starEach es X.env:=by rfl):PA X (e::es) (j5 te t):=by
 intro pos pins s σ H Q I h
 rw[hs]
 show wpAny _ _ (spliced ((false,eval e X.env)::backTo pos (starEach es X.env))) _ _ s
 refine Calls.spliced_cons (thn (ha pins s σ H _ I h) fun u s1 ⟨x,H1,I1,r1,q1⟩=>?_)
 exact thn (hr pos pins s1 σ H1 _ I1 q1) fun us s2 ⟨xs,H2,I2,r2,q2⟩=>⟨x::xs,H2,I2,.cons r1 r2,q2⟩
def zf8 (t:TA):TE:=fun σ H Q=>t σ H fun xs H1=>xs.length≤sizeLine∧∀p,H1 p=none→Q (.ref p) (upd H1 p (.tup xs))
def zh0 (t:TA):TE:=fun σ H Q=>t σ H fun xs H1=>xs.length≤sizeLine∧∀p,H1 p=none→Q (.ref p) (upd H1 p (.lst xs))
theorem zL {x1}(h:PA X es t):PE X (.Tuple es x1 pos) (zf8 t):=by
 intro pins s σ H Q I hq
 refine wpAny_Tuple_spliced (thn (h pos pins s σ H _ I hq) fun us s1 ⟨xs,H1,I1,r,z,q⟩=>⟨by rw[←r.length];exact z,?_⟩)
 have hf:H1 s1.heap.objs.size=none:=I1.hok.fresh (Nat.le_refl _)
 refine⟨.ref s1.heap.objs.size,upd H1 s1.heap.objs.size (.tup xs),I1.laid (t':=s1.toks) (fun b u e=>Heap.get?_push_of_some _ e) (Nat.le_refl _) ?_,rfl,q _ hf⟩
 exact⟨z,us,r,⟨_,Heap.get?_push_size _ rfl,rfl,_,rfl⟩⟩
theorem zG (h:PA X es t):PE X (.List es pos) (zh0 t):=by
 intro pins s σ H Q I hq
 refine wpAny_List_spliced (thn (h pos pins s σ H _ I hq) fun us s1 ⟨xs,H1,I1,r,z,q⟩=>⟨by rw[←r.length];exact z,?_⟩)
 have hf:H1 s1.heap.objs.size=none:=I1.hok.fresh (Nat.le_refl _)
 refine⟨.ref s1.heap.objs.size,upd H1 s1.heap.objs.size (.lst xs),I1.laid (t':=s1.toks) (fun b u e=>Heap.get?_push_of_some _ e) (Nat.le_refl _) ?_,rfl,q _ hf⟩
 exact⟨z,us,0,r,Heap.get?_push_size _ rfl⟩
end
abbrev Sp:=List V→Hp→VK→XK→Prop
abbrev CXT:=List Env→Hp→Shared→XK→Value→Shared→Prop
structure Env0 (P:Program)(w:World)(K:PySem.W.Frag)(mg:Str→Option Value)(base:Heap)(A:Around)(outer:List Env)(s:Shared)(H:Hp):Prop where
 frames:A.frames=some outer
 mod:Mod K mg base
 bs:∀b o,base.get? b=some o→s.heap.get? b=some o∧H b=none
 bsz:base.objs.size≤s.heap.objs.size
 funs:s.heap.FunFrames base outer
 frf:∀b∈frs outer,H b=none
 hok:HOk P w H s.heap
 bare:AllBare s.gens
def CE (outer:List Env)(P:Program)(w:World)(H:Hp)(s:Shared)(Q:VK)(u:Value)(s':Shared):Prop:=
 ∃v H',s'.os=s.os∧AllBare s'.gens∧Un (frs outer) [] H H' s.heap s'.heap∧HOk P w H' s'.heap∧RelV v u∧Q v H'
def CR (CX:CXT)(outer:List Env)(P:Program)(w:World)(H:Hp)(s:Shared)(Q:VK)(E:XK)(r:Result)(s':Shared):Prop:=
 match r with
 | .ok (.ret u)=>CE outer P w H s Q u s'
 | .ok _=>False
 | .error e=>CX outer H s E e s'
structure FnOk (P:Program)(w:World)(K:PySem.W.Frag)(mg:Str→Option Value)(base:Heap)(CX:CXT)(k:Nat)(f:Addr)(fd:FuncData)(ps:List Str)(sp:Sp):Prop where
 len:∀vs H Q E,sp vs H Q E→vs.length=ps.length
 run:∀(A:Around) (outer:List Env) (s:Shared) (H:Hp) (args:Args) (us:List Value) (vs:List V) (Q:VK) (E:XK),Room k A→Env0 P w K mg base A outer s H→BindsTo s fd args (ps.zip us)→Vals vs us→sp vs H Q E→
  codeAny (model P w) A (.call (.ref f) args) (CR CX outer P w H s Q E) s
theorem FnOk.mono {P:Program}{w:World}{K:PySem.W.Frag}{mg:Str→Option Value}{base:Heap}{CX:CXT}{j k:Nat}{f:Addr}{fd:FuncData}{ps:List Str}{sp:Sp}(F:FnOk P w K mg base CX j f fd ps sp)(h:j≤k) :
 FnOk P w K mg base CX k f fd ps sp:=⟨F.len,fun A outer s H args us vs Q E hr=>F.run A outer s H args us vs Q E (hr.mono h)⟩
theorem FnOk.imp {P:Program}{w:World}{K:PySem.W.Frag}{mg:Str→Option Value}{base:Heap}{CX:CXT}{k:Nat}{f:Addr}{fd:FuncData}{ps:List Str}{sp sp':Sp}(F:FnOk P w K mg base CX k f fd ps sp)
 (h:∀vs H Q E,sp' vs H Q E→sp vs H Q E):FnOk P w K mg base CX k f fd ps sp':=
 ⟨fun vs H Q E q=>F.len vs H Q E (h _ _ _ _ q),fun A outer s H args us vs Q E hr he hb hv hs=>F.run A outer s H args us vs Q E hr he hb hv (h _ _ _ _ hs)⟩
theorem Env0.make {P:Program}{w:World}{K:PySem.W.Frag}{mg:Str→Option Value}{base:Heap}{A:Around}{outer:List Env}{s:Shared}{H:Hp}(e:Env0 P w K mg base A outer s H)(C:Addr)(us:List Value)(kw:List (Str×Value)) :
 Env0 P w K mg base (A.under (.builtin "type.__call__" ⟨.ref C::us,kw⟩)) outer s H:=⟨by first|exact e.frames|(simpa[Around.under,Code.envs,Code.isFrame,pushEnvs] using e.frames),e.mod,e.bs,e.bsz,e.funs,e.frf,e.hok,e.bare⟩
theorem Env0.in1 {P:Program}{w:World}{K:PySem.W.Frag}{mg:Str→Option Value}{base:Heap}{A:Around}{outer:List Env}{s:Shared}{H:Hp}(e:Env0 P w K mg base A outer s H) :
 Env0 P w K mg base A.in1 outer s H:=⟨e.frames,e.mod,e.bs,e.bsz,e.funs,e.frf,e.hok,e.bare⟩
section
variable {X:Cx}{pins:List (Addr×Obj)}{σ:St}{H:Hp}{s s':Shared}
theorem Inv.env0 (I:Inv X pins σ H s):Env0 X.prog X.w X.K X.mg X.base X.A X.stack s H:=
 ⟨I.ok.frames,I.ok.mod,I.bs,Nat.le_trans I.ok.bsz I.sz,I.stack,I.stkFree,I.hok,I.bare⟩
theorem Inv.after {Q:VK}{u:Value}(I:Inv X pins σ H s)(h:CE X.stack X.prog X.w H s Q u s'):EP X pins σ Q u s':=by
 obtain⟨v,H',os,bare,un,hok,r,q⟩:=h
 obtain⟨hh,g,d,t,os'⟩:=s'
 obtain rfl:os'=s.os:=os
 exact⟨v,H',I.call (h':=hh) (g':=g) (d':=d) (t':=t) (ch:=[]) un hok bare (fun b z=>absurd z (by simp)),r,q⟩
end
def zfL (sp:Sp)(dvs:List V)(E:XK)(t:TA):TE:=fun σ H Q=>t σ H fun vs H1=>sp (vs++dvs) H1 Q E
def zgT (C:Addr)(m:Str)(sp:Sp)(dvs:List V)(E:XK)(ta:TE)(t:TA):TE:=fun σ H Q=>ta σ H fun x H1=>∃a dx fs,x=.ref a∧H1 a=some (.ins C dx fs)∧fs.lookup m=none∧
 t σ H1 fun vs H2=>sp (x::(vs++dvs)) H2 Q E
def zgU (C:Addr)(sp:Sp)(dvs:List V)(E:XK)(t:TA):TE:=fun σ H Q=>t σ H fun vs H1=>∀x dx,H1 x=none→H1 dx=none→dx≠x→
 sp (.ref x::(vs++dvs)) (upd (upd H1 dx (.own x)) x (.ins C dx [])) (fun v H2=>v=.non∧Q (.ref x) H2) E
def Binds (K:PySem.W.Frag)(fd:FuncData)(ps:List Str)(ds:List Value):Prop:=
 ∀(s:Shared) (us:List Value),K.In s.heap→(us++ds).length=ps.length→BindsTo s fd ⟨us,[]⟩ (ps.zip (us++ds))
theorem Binds.all {K:PySem.W.Frag}{fd:FuncData}{ps:List Str}(h:∀us:List Value,us.length=ps.length→bindArgs fd ⟨us,[]⟩=pure (ps.zip us)):Binds K fd ps []:=fun s us _ hl=>by
 rw[List.append_nil] at hl ⊢
 exact .of_eq (h us hl)
def je (CX:CXT)(X:Cx)(E:XK):Prop:=∀(pins:List (Addr×Obj)) (σ:St) (H:Hp) (s:Shared) (e:Value) (s':Shared),Inv X pins σ H s→CX X.stack H s E e s'→X.xe e s'
section
variable {X:Cx}{CX:CXT}{k:Nat}{f C:Addr}{fd:FuncData}{ps:List Str}{sp:Sp}{dvs:List V}{ds:List Value}{E:XK}{x m:Str}{p pos apos:Pos}{e o:Expr}{es:List Expr}{ta:TE}{t:TA}
theorem gc {pins:List (Addr×Obj)}{σ:St}{H:Hp}{s:Shared}{Q:VK}{us:List Value}{vs:List V}(F:FnOk X.prog X.w X.K X.mg X.base CX k f fd ps sp)(hr:Room k X.A)(hb:Binds X.K fd ps ds)(hd:Vals dvs ds)(hx:je CX X E)
 (I:Inv X pins σ H s) (r:Vals vs us) (h:sp (vs++dvs) H Q E):wpAny (model X.prog X.w) X.A (call (.ref f) us) (EP X pins σ Q) X.xe s:=by
 have r2:Vals (vs++dvs) (us++ds):=r.append hd
 have hl:(us++ds).length=ps.length:=by rw[←r2.length];exact F.len _ _ _ _ h
 refine wpAny_call (codeAny_mono (F.run X.A X.stack s H ⟨us,[]⟩ (us++ds) (vs++dvs) Q E hr I.env0 (hb s us I.kIn hl) r2 h) fun r s' hq=>?_)
 cases r with
 |error e=>exact hx pins σ H s e s' I hq
 |ok fl=>
  cases fl with
  |ret u=>exact I.after hq
  |next=>exact False.elim hq
  |brk=>exact False.elim hq
  |cont=>exact False.elim hq
theorem zo (F:FnOk X.prog X.w X.K X.mg X.base CX k f fd ps sp)(hr:Room k X.A)(hg:Gl X x)(hm:X.mg x=some (.ref f))(hk:PySem.W.keepIn X.K (.ref f)=true)(hb:Binds X.K fd ps ds)(hd:Vals dvs ds)(hx:je CX X E)
 (ha:PA X (e::es) t) (hdb:(x==("__debug__":Str))=false:=by decide) (he:starEach (e::es) X.env=(false,eval e X.env)::starEach es X.env:=by rfl) (hpl:(backTo pos (starEach es X.env)).any (·.1)=false:=by rfl) :
 PE X (.Call (.Name x p) (e::es) [] pos) (zfL sp dvs E t):=by
 intro pins s σ H Q I h
 refine wpAny_Call_Name_kw (xy I hg hm ?_ hdb)
 refine PySem.W.callWith_K (h₀:=X.base) I.ok.mod.kin hk (thn (ha pos pins s σ H _ I h) fun us s1 ⟨vs,H1,I1,r,q⟩=>⟨I1.kIn,?_⟩) he hpl
 exact gc F hr hb hd hx I1 r q
theorem gp (F:FnOk X.prog X.w X.K X.mg X.base CX k f fd ps sp)(hr:Room k X.A)(hg:Gl X x)(hm:X.mg x=some (.ref f))(hk:PySem.W.keepIn X.K (.ref f)=true)(hb:Binds X.K fd ps ds)(hd:Vals dvs ds)(hx:je CX X E)
 (hdb:(x==("__debug__":Str))=false:=by decide):PE X (.Call (.Name x p) [] [] pos) (zfL sp dvs E yh):=by
 intro pins s σ H Q I h
 refine wpAny_Call_Name_kw (xy I hg hm ?_ hdb)
 exact PySem.W.callWith_K0 I.kIn hk (gc (us:=[]) F hr hb hd hx I .nil h)
theorem qb {pl:Sem Bool}(he:PE X o ta)(c:Cls X.K C)(hm:zgN X.K C m f)(F:FnOk X.prog X.w X.K X.mg X.base CX k f fd ps sp)(hr:Room k X.A)(hb:Binds X.K fd ps ds)(hd:Vals dvs ds)(hx:je CX X E)(ha:PA X (e::es) t)
 (hst:starEach (e::es) X.env=(false,eval e X.env)::starEach es X.env:=by rfl) (hpl:(backTo pos (starEach es X.env)).any (·.1)=false:=by rfl)
 (ht:eval (.Call (.Attribute o m apos) (e::es) [] pos) X.env=(do
   let ov ←eval o X.env
   standAt apos.atName
   let (f,first) ←holding [ov] (getMethod ov m pl)
   callWith pos f first (backTo pos (starEach (e::es) X.env)) (backToKw pos (keywordEach [] X.env))):=by rfl) :
 PE X (.Call (.Attribute o m apos) (e::es) [] pos) (zgT C m sp dvs E ta t):=by
 intro pins s σ H Q I h
 refine PySem.W.methodCall_KW (pl:=pl) (thn (he pins s σ H _ I h) fun u s1 ⟨x,H1,I1,rx,a,dx,fs,ex,ea,l,q⟩=>?_) ht
 subst ex
 obtain rfl:u=Value.ref a:=rx
 refine za6 I1 ea c hm l ?_
 refine PySem.W.callWith_K (first:=[.ref a]) (h₀:=X.base) I.ok.mod.kin hm.kp (thn (ha pos pins s1 σ H1 _ I1 q) fun us s2 ⟨vs,H2,I2,r,q2⟩=>⟨I2.kIn,?_⟩) hst hpl
 exact gc (us:=.ref a::us) (vs:=.ref a::vs) F hr hb hd hx I2 (.cons rfl r) q2
structure Mk (K:PySem.W.Frag)(C f:Addr):Prop where
 makes:PySem.W.makesIn K C=true
 init:PySem.W.findIn K (.ref C) "__init__"=some (some (.ref f))
 fn:PySem.W.isFn K (.ref f)=true
 kp:PySem.W.keepIn K (.ref C)=true
theorem zdC {pins:List (Addr×Obj)}{σ:St}{H:Hp}{s:Shared}{Q:VK}{us:List Value}{vs:List V}(M:Mk X.K C f)(F:FnOk X.prog X.w X.K X.mg X.base CX k f fd ps sp)(hr:Room (k+1) X.A)(hb:Binds X.K fd ps ds)(hd:Vals dvs ds)
 (hx:je CX X E) (I:Inv X pins σ H s) (r:Vals vs us)
 (h:∀x dx,H x=none→H dx=none→dx≠x→sp (.ref x::(vs++dvs)) (upd (upd H dx (.own x)) x (.ins C dx [])) (fun v H2=>v=.non∧Q (.ref x) H2) E) :
 wpAny (model X.prog X.w) X.A (call (.ref C) us) (EP X pins σ Q) X.xe s:=by
 have hq:=h (s.heap.objs.size+1) s.heap.objs.size (I.hok.fresh (Nat.le_succ _)) (I.hok.fresh (Nat.le_refl _)) (Nat.ne_of_lt (Nat.lt_succ_self _))
 have I2:=Inv.made (C:=C) I
 have r2:Vals (V.ref (s.heap.objs.size+1)::(vs++dvs)) (Value.ref (s.heap.objs.size+1)::(us++ds)):=.cons rfl (r.append hd)
 have hl:(Value.ref (s.heap.objs.size+1)::us++ds).length=ps.length:=by
  have e:=r2.length
  rw[F.len _ _ _ _ hq] at e
  exact e.symm
 refine wpAny_call (zef (f:=f) I.kIn M.makes M.init (beq_iff_eq.mp M.fn) (codeAny_mono (F.run _ X.stack _ _ ⟨Value.ref (s.heap.objs.size+1)::us,[]⟩ (Value.ref (s.heap.objs.size+1)::(us++ds)) _ _ E (hr.make C us [])
  (I2.env0.make C us []) (hb _ (Value.ref (s.heap.objs.size+1)::us) I2.kIn hl) r2 hq) fun r s' hq'=>?_))
 cases r with
 |error e=>exact hx pins σ _ _ e s' I2 hq'
 |ok fl=>
  cases fl with
  |ret u=>
   obtain⟨v,H',I3,rv,ev,q3⟩:=I2.after hq'
   subst ev
   exact⟨rv,⟨V.ref (s.heap.objs.size+1),H',I3,rfl,q3⟩⟩
  |next=>exact False.elim hq'
  |brk=>exact False.elim hq'
  |cont=>exact False.elim hq'
theorem zdN (M:Mk X.K C f)(F:FnOk X.prog X.w X.K X.mg X.base CX k f fd ps sp)(hr:Room (k+1) X.A)(hg:Gl X x)(hm:X.mg x=some (.ref C))(hb:Binds X.K fd ps ds)(hd:Vals dvs ds)(hx:je CX X E)
 (hdb:(x==("__debug__":Str))=false:=by decide):PE X (.Call (.Name x p) [] [] pos) (zgU C sp dvs E yh):=by
 intro pins s σ H Q I h
 refine wpAny_Call_Name_kw (xy I hg hm ?_ hdb)
 exact PySem.W.callWith_K0 I.kIn M.kp (zdC (us:=[]) M F hr hb hd hx I .nil h)
end
def PK (X:Cx)(kws:List Keyword)(t:TA):Prop:=
 ∀(pos:Pos) (pins:List (Addr×Obj)) (s:Shared) (σ:St) (H:Hp) (Q:List V→Hp→Prop),Inv X pins σ H s→t σ H Q→wpAny (model X.prog X.w) X.A (evalAll ((backToKw pos (keywordEach kws X.env)).map (·.2))) (AP X pins σ Q) X.xe s
section
variable {X:Cx}{CX:CXT}{k:Nat}{f C:Addr}{fd:FuncData}{ps ks:List Str}{sp:Sp}{E:XK}{x m:Str}{p pos apos kpos:Pos}{e o:Expr}{es:List Expr}{kws:List Keyword}{te ta:TE}{t tk:TA}{nm:Option Str}
theorem dk:PK X [] yh:=fun _ _ _ _ H Q I h=>wpAny_evalAll_nil ⟨[],H,I,.nil,h⟩
theorem vp (ha:PE X e te)(hr:PK X kws t):PK X (⟨nm,e,kpos⟩::kws) (j5 te t):=by
 intro pos pins s σ H Q I h
 show wpAny _ _ (evalAll ((do let v ←eval e X.env;standAt pos;pure v)::(backToKw pos (keywordEach kws X.env)).map (·.2))) _ _ s
 refine wpAny_evalAll_cons (wpAny_bind (thn (ha pins s σ H _ I h) fun u s1 ⟨x,H1,I1,r1,q1⟩=>wpAny_bind (wpAny_standAt (wpAny_pure ?_))))
 exact thn (hr pos pins s1 σ H1 _ I1 q1) fun us s2 ⟨xs,H2,I2,r2,q2⟩=>⟨x::xs,H2,I2,.cons r1 r2,q2⟩
variable {g:List Value→List Value→List Value}{gV:List V→List V→List V}
end
structure zl (N P:List Str)(sc:Scope):Prop where
 kind:sc.kind=.function
 co:sc.isCoroutine=false
 gen:sc.isGenerator=false
 nd:N.Nodup
 pre:N.take P.length=P
 par:∀x∈P,sc.names.lookup x=some .local∨sc.names.lookup x=some .cell
 nofree:∀y∈sc.names,y.2≠.free
theorem bI {kindOf:Str→Option NameKind}{x:Str}:∀{binds:List (Str×Value)}{m:Str→Option Value},(∀v,(x,v)∉binds)→bindL kindOf binds m x=m x
 |[],_,_=>rfl
 |(n,v)::r,m,h=>by
  unfold bindL
  rw[bI fun w hw=>h w (List.mem_cons_of_mem _ hw)]
  split
  ·have:x≠n:=by rintro rfl;exact h v List.mem_cons_self
   simp[this]
  ·rfl
theorem bK {kindOf:Str→Option NameKind}{x:Str}:∀{binds:List (Str×Value)}{m:Str→Option Value},(∀v,(x,v)∉binds)→bindC kindOf binds m x=m x
 |[],_,_=>rfl
 |(n,v)::r,m,h=>by
  unfold bindC
  rw[bK fun w hw=>h w (List.mem_cons_of_mem _ hw)]
  split
  ·rfl
  ·have:x≠n:=by rintro rfl;exact h v List.mem_cons_self
   simp[this]
theorem bJ {kindOf:Str→Option NameKind}{x:Str}{v:Value}:∀{P:List Str}{vs:List Value}{i:Nat}{m:Str→Option Value},P.Nodup→P[i]?=some x→vs[i]?=some v→kindOf x=some .local→
 bindL kindOf (P.zip vs) m x=some v
 |[],_,_,_,_,h,_,_=>by simp at h
 |_::_,[],_,_,_,_,h,_=>by simp at h
 |p::P,w::vs,0,m,nd,h1,h2,hk=>by
  simp at h1 h2;subst h1;subst h2
  show bindL kindOf ((p,w)::P.zip vs) m p=_
  unfold bindL
  rw[bI fun v hv=>(List.nodup_cons.mp nd).1 (List.of_mem_zip hv).1,if_pos hk]
  simp
 |p::P,w::vs,i+1,m,nd,h1,h2,hk=>by
  show bindL kindOf ((p,w)::P.zip vs) m x=_
  unfold bindL
  exact bJ (i:=i) (List.nodup_cons.mp nd).2 (by simpa using h1) (by simpa using h2) hk
theorem bL {kindOf:Str→Option NameKind}{x:Str}{v:Value}:∀{P:List Str}{vs:List Value}{i:Nat}{m:Str→Option Value},P.Nodup→P[i]?=some x→vs[i]?=some v→kindOf x≠some .local→
 bindC kindOf (P.zip vs) m x=some v
 |[],_,_,_,_,h,_,_=>by simp at h
 |_::_,[],_,_,_,_,h,_=>by simp at h
 |p::P,w::vs,0,m,nd,h1,h2,hk=>by
  simp at h1 h2;subst h1;subst h2
  show bindC kindOf ((p,w)::P.zip vs) m p=_
  unfold bindC
  rw[bK fun v hv=>(List.nodup_cons.mp nd).1 (List.of_mem_zip hv).1,if_neg hk]
  simp
 |p::P,w::vs,i+1,m,nd,h1,h2,hk=>by
  show bindC kindOf ((p,w)::P.zip vs) m x=_
  unfold bindC
  exact bL (i:=i) (List.nodup_cons.mp nd).2 (by simpa using h1) (by simpa using h2) hk
def start (N:List Str)(vs:List V):St:=vs.map some++List.replicate (N.length-vs.length) none
def v9 (CX:CXT)(P:Program)(w:World)(K:PySem.W.Frag)(mg:Str→Option Value)(base:Heap)(N:List Str)(qual:Str)(scope:Scope)(f:Addr)(cd:Value)(A:Around)(outer:List Env)(s:Shared)(H:Hp)(E:XK):Cx where
 prog:=P
 w:=w
 K:=K
 mg:=mg
 base:=base
 A:=A.deeper (envOfC qual scope s.heap.objs.size f cd)
 N:=N
 s₀:=s
 H₀:=H
 env:=envOfC qual scope s.heap.objs.size f cd
 outer:=outer
 stack:=envOfC qual scope s.heap.objs.size f cd::outer
 ex:=[]
 calm:=true
 fn:=fun _=>true
 pn:=[]
 xe:=fun e s'=>wpAny (model P w) (A.deeper (envOfC qual scope s.heap.objs.size f cd)) (leaving (envOfC qual scope s.heap.objs.size f cd) e) (fun _ s''=>CX outer H s E e s'') (fun e' s''=>CX outer H s E e' s'') s'
theorem gX {sc:Scope}{n:Nat}{x:Str}(h:sc.names.lookup x=some .cell):∃c,(cellsFrom n sc.names []).lookup x=some c:=by
 have q:=PySem.W.cellsFrom_some sc.names n [] (.inl h)
 exact Option.isSome_iff_exists.mp q
theorem bD {CX:CXT}{P:Program}{w:World}{K:PySem.W.Frag}{mg:Str→Option Value}{base:Heap}{N ps:List Str}{qual:Str}{scope:Scope}{f:Addr}{cd:Value}{A:Around}{outer:List Env}{s s1:Shared}{H:Hp}{E:XK}{us:List Value}{vs:List V}
 (S:zl N ps scope) (hd:A.handled=none) (e0:Env0 P w K mg base A outer s H) (hl:vs.length=ps.length) (r:Vals vs us)
 (x:InCallC s s.heap.objs.size (bindL (envOfC qual scope s.heap.objs.size f cd).kindOf (ps.zip us) fun _=>none) (cellsFrom (s.heap.objs.size+1) scope.names []) (bindC (envOfC qual scope s.heap.objs.size f cd).kindOf (ps.zip us) fun _=>none) s1) :
 Inv (v9 CX P w K mg base N qual scope f cd A outer s H E) [] (start N vs) H s1:=by
 have hpl:ps.length≤N.length:=by have:=congrArg List.length S.pre;rw[List.length_take] at this;omega
 obtain⟨h1,tk,rfl,hk⟩:=x.done
 have noA:∀b:Addr,b∉(v9 CX P w K mg base N qual scope f cd A outer s H E).ex:=fun b z=>absurd (show b∈([]:List Addr) from z) (by simp)
 refine⟨⟨e0.mod,S.kind,rfl,rfl,Nat.le_refl _,fun y z c h1 h2=>?_,fun y hy=>?_,fun y c _ h=>?_,fun _=>hd,Around.frames_deeper e0.frames,.inr ⟨rfl,rfl⟩,fun b z=>absurd z (noA b),e0.bs,e0.bsz,fun b _ _=>noA b,fun b z=>absurd z (noA b),e0.funs,e0.frf⟩,
  rfl,e0.bare,Un.kept hk,⟨_,x.toInCall.ns,fun i y v h1 h2 h3=>?_⟩,fun y c h=>⟨_,x.cell y c h⟩,e0.hok.fresh (Nat.le_refl _),fun y c h=>?_,fun p hp=>absurd (show p∈([]:List (Addr×Obj)) from hp) (by simp),e0.hok.kept hk,?_⟩
 ·exact name_of_addr x.apart (PySem.mem_of_lookup h1) (PySem.mem_of_lookup h2)
 ·have hy:scope.names.lookup y=some .cell∨scope.names.lookup y=some .free:=hy
  rcases hy with hy|hy
  ·exact gX hy
  ·exact absurd rfl (S.nofree _ (PySem.mem_of_lookup hy))
 ·exact Nat.le_of_lt (x.above y c (PySem.mem_of_lookup h))
 ·have hi:i<vs.length:=by
   unfold start at h2
   by_cases hi:i<vs.length
   ·exact hi
   ·rw[List.getElem?_append_right (by simpa using hi)] at h2
    rw[List.getElem?_replicate] at h2
    split at h2<;>cases h2
  have ha:vs[i]?=some v:=by
   unfold start at h2
   rw[List.getElem?_append_left (by simpa using hi),List.getElem?_map] at h2
   cases e:vs[i]? with
   |none=>rw[e] at h2;cases h2
   |some a=>rw[e] at h2;cases h2;rfl
  obtain⟨u,hu,rv⟩:=r.get ha
  have hp:ps[i]?=some y:=by
   rw[←S.pre,List.getElem?_take_of_lt (by omega)];exact h1
  have ndP:ps.Nodup:=by rw[←S.pre];exact S.nd.sublist (List.take_sublist _ _)
  refine⟨u,rv,?_⟩
  rcases S.par y (List.mem_of_getElem? hp) with k|k
  ·exact .inl ⟨k,bJ ndP hp hu k⟩
  ·obtain⟨c,e⟩:=gX (n:=s.heap.objs.size+1) k
   refine .inr ⟨.inl k,c,e,?_⟩
   have q:=x.cell y c e
   rw[bL ndP hp hu (by show scope.names.lookup y≠_;rw[k];decide)] at q
   exact q
 ·exact e0.hok.fresh (Nat.le_of_lt (x.above y c (PySem.mem_of_lookup h)))
 ·unfold start
  show _=N.length
  rw[List.length_append,List.length_map,List.length_replicate]
  omega
theorem zep {CX:CXT}{P:Program}{w:World}{K:PySem.W.Frag}{mg:Str→Option Value}{base:Heap}{k:Nat}{f:Addr}{name qual:Str}{params:Arguments}{body:List Stmt}{scope:Scope}{dV kV doc pm cdv ct oc:Value}{an od:Option Addr}
 {osl:Array (Option Value)}{N ps:List Str}{sp:Sp}(lk:K.lookup f=some ⟨oc,od,.func (PySem.W.fnOf name qual params body scope dV kV doc pm an cdv ct),osl⟩) (hcd:PySem.W.codeIn K cdv qual=true) (S:zl N ps scope)
 (len:∀vs H Q E,sp vs H Q E→vs.length=ps.length)
 (hbody:∀(A:Around) (outer:List Env) (s:Shared) (H:Hp) (vs:List V) (Q:VK) (E:XK),Room k (A.deeper (envOfC qual scope s.heap.objs.size f cdv))→sp vs H Q E→
   ∃t,PSs (v9 CX P w K mg base N qual scope f cdv A outer s H E) body t∧t { nx:=fun _ H'=>Q .non H',rt:=Q } (start N vs) H) :
 FnOk P w K mg base CX (k+1) f (PySem.W.fnOf name qual params body scope dV kV doc pm an cdv ct) ps sp:=by
 refine⟨len,fun A outer s H args us vs Q E hr e0 hb r hsp=>?_⟩
 have hl:=len _ _ _ _ hsp
 have KX:K.In s.heap:=e0.mod.kin.keeps fun b o e=>(e0.bs b o e).1
 have lim:s.heap.NoLimit:=e0.mod.nolimit.keeps fun b o e=>(e0.bs b o e).1
 have hkind:∀y∈ps.zip us,scope.names.lookup y.1=some .local∨(scope.names.lookup y.1=some .cell∧((cellsFrom (s.heap.objs.size+1) scope.names []).lookup y.1).isSome=true):=fun⟨n,v⟩ hy=>by
  rcases S.par n (List.of_mem_zip hy).1 with q|q
  ·exact .inl q
  ·exact .inr ⟨q,PySem.W.cellsFrom_some _ _ _ (.inl q)⟩
 refine codeAny_call_function hr.depth (KX _ _ lk) rfl S.co S.gen rfl (PySem.W.codeRec_of KX hcd) (hb _ _ _ _ ?_)
 refine wpAny_newFunctionEnv_cells S.kind hkind fun env he s1 x=>?_
 subst he
 refine⟨lim.keeps x.toInCall.keep,codeAny_func ?_⟩
 obtain⟨t,ht,hq⟩:=hbody A outer s H vs Q E (hr.deeper _) hsp
 have I:Inv (v9 CX P w K mg base N qual scope f cdv A outer s H E) [] (start N vs) H s1:=bD S hr.hd e0 hl r x
 refine wpAny_mono (ht [] s1 (start N vs) H _ I hq) (fun fl s' hs=>?_) fun e s' hs=>hs
 have fin:∀{σ':St}{H':Hp}{v:V}{u:Value},Inv (v9 CX P w K mg base N qual scope f cdv A outer s H E) [] σ' H' s'→RelV v u→Q v H'→CE outer P w H s Q u s':=
  fun {σ' H' v u} J rv q=>⟨v,H',J.os,J.bare,J.base,J.hok,rv,q⟩
 cases fl with
 |ret u=>
  obtain⟨v,σ',H',J,rv,q⟩:=hs
  exact fin J rv q
 |next=>
  obtain⟨σ',H',J,q⟩:=hs
  exact fin (v:=V.non) (u:=Value.none) J rfl q
 |brk=>
  obtain⟨_,_,_,q⟩:=hs
  exact False.elim q
 |cont=>
  obtain⟨_,_,_,q⟩:=hs
  exact False.elim q
end
section
section
variable {X:Cx}{x:Str}{p pos:Pos}{e:Expr}{es:List Expr}{t:TA}{id T:String}{r:List V→Hp→VK→Prop}
def tCB (r:List V→Hp→VK→Prop)(t:TA):TE:=fun σ H Q=>t σ H fun vs H1=>r vs H1 Q
theorem zt (hc:CallR X (.builtin id) r)(hg:Gl X x)(hm:X.mg x=none)(hv:bootBuiltins x=some (.builtin id))(ha:PA X (e::es) t)(hn:x≠"__name__":=by decide)(hdb:(x==("__debug__":Str))=false:=by decide)
 (he:starEach (e::es) X.env=(false,eval e X.env)::starEach es X.env:=by rfl) (hpl:(backTo pos (starEach es X.env)).any (·.1)=false:=by rfl):PE X (.Call (.Name x p) (e::es) [] pos) (tCB r t):=by
 intro pins s σ H Q I h
 refine wpAny_Call_Name_kw (we I hg hm hv ?_ hn hdb)
 exact PyProof.Rows.callWith_builtin1 (thn (ha pos pins s σ H _ I h) fun us s1 ⟨vs,H1,I1,r1,q1⟩=>hc pins s1 σ H1 vs us Q I1 r1 q1) he hpl
theorem jo (hc:CallR X (.type T) r)(hg:Gl X x)(hm:X.mg x=none)(hv:bootBuiltins x=some (.type T))(ha:PA X (e::es) t)(hn:x≠"__name__":=by decide)(hdb:(x==("__debug__":Str))=false:=by decide)
 (he:starEach (e::es) X.env=(false,eval e X.env)::starEach es X.env:=by rfl) (hpl:(backTo pos (starEach es X.env)).any (·.1)=false:=by rfl):PE X (.Call (.Name x p) (e::es) [] pos) (tCB r t):=by
 intro pins s σ H Q I h
 refine wpAny_Call_Name_kw (we I hg hm hv ?_ hn hdb)
 exact PyProof.Rows.callWith_type1 (thn (ha pos pins s σ H _ I h) fun us s1 ⟨vs,H1,I1,r1,q1⟩=>hc pins s1 σ H1 vs us Q I1 r1 q1) he hpl
end
end
end L2
namespace HT
open PySem PyProof.Rows
def lexLt:List Int→List Int→Bool
 |[],[]=>false
 |[],_::_=>true
 |_::_,[]=>false
 |x::xs,y::ys=>if x=y then lexLt xs ys else decide (x<y)
theorem lexLt_cons (x y:Int)(xs ys:List Int):lexLt (x::xs) (y::ys)=if x=y then lexLt xs ys else decide (x<y):=rfl
theorem lexLt_nil_nil:lexLt [] []=false:=rfl
theorem gG (y:Int)(ys:List Int):lexLt [] (y::ys)=true:=rfl
theorem gH (x:Int)(xs:List Int):lexLt (x::xs) []=false:=rfl
theorem zes (A:Around)(s:Shared)(a:Int)(t:Tok)(c:Int)(u:Tok):∃e,SeqAt.EqAt A s (.int a t) (.int c u) e∧(e=true↔a=c):=
 ⟨(a==c),SeqAt.EqAt.int_int a t c u,by simp⟩
theorem rcLt_int (A:Around)(s:Shared)(a:Int)(t:Tok)(c:Int)(u:Tok)(prog:Program)(w:World)(E:Value→Shared→Prop)(Q:Value→Shared→Prop)(h:Q (.bool (decide (a<c))) s) :
 wpAny (model prog w) A (richCompare .Lt (.int a t) (.int c u)) Q E s:=
 (PyProof.Rows.lt_int h:wpAny (model prog w) A (compareOp .Lt (.int a t) (.int c u)) Q E s)
section
open PySem.SeqAt
open PySem.AutoSeq1 (wpAny_loadPart')
open PySem.MeetsSeq PySem.MeetsSeq2 PySem.MeetsSeq3
theorem fw (l b:Addr)(items items2:Array Value)(n n2:Nat)(dd dd2:Option Addr)(sl sl2:Array (Option Value))(ns ms:List Int)(hi:IntsAre items.toList ns)(hj:IntsAre items2.toList ms) :
 Meets (Builtin.«tuple.__lt__» ⟨[.ref l,.ref b],[]⟩)
  (fun _ R s=>s.heap.get? l=some { cls:=.type "tuple",dict:=dd,data:=.seq items n,slots:=sl }∧s.heap.get? b=some { cls:=.type "tuple",dict:=dd2,data:=.seq items2 n2,slots:=sl2 }∧
    R (.ok (.ret (.bool (lexLt ns ms)))) s):=
 .of_wp fun prog w A R s h=>by
  obtain⟨hp,g,d,tk,os⟩:=s;obtain⟨hl,hb,h⟩:=h
  have f2:=AutoSeq1.sub_tuple_tuple
  have z1:items.size=ns.length:=by rw[←hi.length];simp
  have z2:items2.size=ms.length:=by rw[←hj.length];simp
  wp_walk using wpAny_loadPart' hl,wpAny_loadPart' hb,wpAny_forIn_list _ (fun rest b s'=>b.1=none∧s'=⟨hp,g,d,tk,os⟩∧∃(vs ws:List Value) (ns' ms':List Int),rest=vs.zip ws∧
   IntsAre vs ns'∧IntsAre ws ms'∧ns'.length+items2.size=ms'.length+items.size∧R (.ok (.ret (.bool (lexLt ns' ms')))) ⟨hp,g,d,tk,os⟩) _
  case turn=>
   rintro⟨y,x⟩ rest b s' ⟨hb',rfl,vs,ws,ns',ms',hz,hvi,hwi,hlen,hR⟩
   cases hvi with
   |nil=>rw[List.zip_nil_left] at hz;cases hz
   |cons a t hvi'=>
    cases hwi with
    |nil=>rw[List.zip_nil_right] at hz;cases hz
    |cons c u hwi'=>
     rw[List.zip_cons_cons] at hz
     injection hz with hyx hrest
     injection hyx with hy hx
     subst hy hx
     rw[lexLt_cons] at hR
     simp only[List.length_cons] at hlen
     obtain⟨e,he,hiff⟩:=zes A.in1 ⟨hp,g,d,tk,os⟩ a t c u
     refine wpAny_bind (he prog w _ _ ?_)
     cases e with
     |true=>
      rw[if_pos (hiff.mp rfl)] at hR
      wp_walk
      exact⟨rfl,rfl,_,_,_,_,hrest,hvi',hwi',by omega,hR⟩
     |false=>
      rw[if_neg (fun q=>absurd (hiff.mpr q) Bool.false_ne_true)] at hR
      have hri:=rcLt_int A.in1 ⟨hp,g,d,tk,os⟩ a t c u prog w
      wp_walk using hri
      exact⟨_,rfl,by simpa using hR⟩
  case fin=>
   rintro⟨b1,b2⟩ s' ⟨hb',rfl,vs,ws,ns',ms',hz,hvi,hwi,hlen,hR⟩
   simp only at hb'
   subst hb'
   have hv:lexLt ns' ms'=decide (items.size<items2.size):=by
    cases hvi with
    |nil=>
     cases hwi with
     |nil=>
      simp only[List.length_nil] at hlen
      rw[lexLt_nil_nil]
      exact(decide_eq_false (by omega)).symm
     |cons c u hw=>
      simp only[List.length_nil,List.length_cons] at hlen
      rw[gG]
      exact(decide_eq_true (by omega)).symm
    |cons a t hv=>
     cases hwi with
     |nil=>
      simp only[List.length_nil,List.length_cons] at hlen
      rw[gH]
      exact(decide_eq_false (by omega)).symm
     |cons c u hw=>
      rw[List.zip_cons_cons] at hz
      cases hz
   rw[hv] at hR
   wp_walk
   exact⟨_,rfl,by simpa[Builtin.Tuple.tupleCompareSizes] using hR⟩
  case h=>
   exact⟨rfl,rfl,items.toList,items2.toList,ns,ms,rfl,hi,hj,by omega,h⟩
end
section
variable {prog:Program}{w:World}{A:Around}{E:Value→Shared→Prop}{s:Shared}
theorem lt_tupInts {l b:Addr}{items items2:Array Value}{ns ms:List Int}{Q:Value→Shared→Prop}(hl:IsTup s.heap l items)(hb:IsTup s.heap b items2)(hi:IntsAre items.toList ns)(hj:IntsAre items2.toList ms)
 (hu:A.units<cLine) (h:Q (.bool (lexLt ns ms)) s):wpAny (model prog w) A (compareOp .Lt (.ref l) (.ref b)) Q E s:=by
 obtain⟨⟨cls,dd,data,sl⟩,ho,hc,n,hd⟩:=id hl
 obtain⟨⟨cls2,dd2,data2,sl2⟩,ho2,hc2,n2,hd2⟩:=id hb
 simp only at hc hd hc2 hd2
 subst hc hd hc2 hd2
 exact richCompare_meets_room (op:=.Lt) ⟨_,ho,rfl⟩ ⟨_,ho2,rfl⟩ PySem.F.slot_tuple_lt PySem.F.entry_tuple_lt (PySem.F.args_tuple_lt_2 _ _) (fw l b items items2 n n2 dd dd2 sl sl2 ns ms hi hj)
  ⟨ho,ho2,show Value.bool (lexLt ns ms)≠Value.notImplemented∧Q (.bool (lexLt ns ms)) s from⟨(fun x=>nomatch x),h⟩⟩ hu
theorem cat_tup {t b:Addr}{vs ws:List Value}{Q:Value→Shared→Prop}(ht:IsTup s.heap t vs.toArray)(hb:IsTup s.heap b ws.toArray)(hv:vs≠[])
 (h1:ws=[]→Q (.ref t) s) (h2:ws≠[]→Q (.ref s.heap.objs.size) { s with heap:=s.heap.push { cls:=.type "tuple",data:=.seq (vs++ws).toArray } })
 (hsz:vs.length+ws.length≤sizeLine):wpAny (model prog w) A (binaryOp .Add (.ref t) (.ref b)) Q E s:=by
 obtain⟨⟨cls,dd,data,sl⟩,ho,hc,n,hd⟩:=id ht
 obtain⟨⟨cls2,dd2,data2,sl2⟩,ho2,hc2,n2,hd2⟩:=id hb
 simp only at hc hd hc2 hd2
 subst hc hd hc2 hd2
 have e:vs.toArray++ws.toArray=(vs++ws).toArray:=by simp
 by_cases hw:ws=[]
 ·exact concat_meets ⟨_,ho,rfl⟩ ⟨_,ho2,rfl⟩ noFill_tuple_add seq_tuple_add PySem.F.slot_tuple_add PySem.F.entry_tuple_add (PySem.F.args_tuple_add_2 _ _)
   (tuple_addW1 t b vs.toArray ws.toArray n n2 dd dd2 sl sl2 (by simpa using hv) (by simp[hw])) ⟨ho,ho2,h1 hw⟩
 ·refine concat_meets ⟨_,ho,rfl⟩ ⟨_,ho2,rfl⟩ noFill_tuple_add seq_tuple_add PySem.F.slot_tuple_add PySem.F.entry_tuple_add (PySem.F.args_tuple_add_2 _ _)
   (tuple_addW2 t b vs.toArray ws.toArray n n2 dd dd2 sl sl2 (by simpa using hv) (by simpa using hw) (by rw[List.size_toArray,List.size_toArray];exact hsz)) ⟨ho,ho2,?_⟩
  rw[e]
  exact h2 hw
def sIx (n d:Nat):Option Int→Nat
 |none=>d
 |some v=>if v<0 then(v+(n:Int)).toNat else min v.toNat n
theorem zgh (n d:Nat)(hd:d≤n)(o:Option Int):sIx n d o≤n:=by
 cases o with
 |none=>exact hd
 |some v=>
  show(if v<0 then(v+(n:Int)).toNat else min v.toNat n)≤n
  by_cases hv:v<0
  ·rw[if_pos hv];omega
  ·rw[if_neg hv];exact Nat.min_le_right _ _
theorem zcf (v:Int)(n d:Nat):(if v<0 then max (v+(n:Int)) 0 else min v (n:Int))=((sIx n d (some v):Nat):Int):=by
 show(if v<0 then max (v+(n:Int)) 0 else min v (n:Int))=(((if v<0 then(v+(n:Int)).toNat else min v.toNat n):Nat):Int)
 by_cases hv:v<0
 ·simp only[if_pos hv];omega
 ·simp only[if_neg hv];omega
theorem zbl (lo hi:Option Int)(n:Nat):Builtin.Slice.sliceAdjust lo hi 1 (n:Int)=(((sIx n 0 lo:Nat):Int),((sIx n n hi:Nat):Int)):=by
 have h1:¬((1:Int)<0):=by omega
 unfold Builtin.Slice.sliceAdjust
 simp only[h1,if_false]
 refine Prod.ext ?_ ?_
 ·cases lo with
  |none=>rfl
  |some v=>exact zcf v n 0
 ·cases hi with
  |none=>rfl
  |some v=>exact zcf v n n
theorem zaT (i j:Nat):Builtin.Slice.slicePlaces (i:Int) (j:Int) 1=j-i:=by
 unfold Builtin.Slice.slicePlaces
 have h1:(1:Int)>0:=by omega
 simp only[h1,if_true,Int.ediv_one]
 split<;>omega
theorem kZ {v:Value}{o:Option Int}{Q:Option Int→Shared→Prop}(p:IsPart v o)(h:Q o s):wpAny (model prog w) A (Builtin.Slice.slicePartIndex v) Q E s:=by
 cases p with
 |none=>exact slicePart_none h
 |int i t=>exact slicePart_int h
theorem j7 {sl:Addr}{vl vu:Value}{lo hi:Option Int}{n:Nat}{Q:Int×Int×Nat→Shared→Prop}(hs:s.heap.IsSliceOf sl vl vu .none)(pl:IsPart vl lo)(pu:IsPart vu hi)
 (h:Q (((sIx n 0 lo:Nat):Int),1,sIx n n hi-sIx n 0 lo) s):wpAny (model prog w) A (Builtin.Slice.sliceApplied (.ref sl) (pure (n:Int))) Q E s:=by
 obtain⟨os,hos,hcs,hds⟩:=id hs
 unfold Builtin.Slice.sliceApplied Builtin.Slice.sliceFields
 refine wpAny_bind (wpAny_bind (wpAny_field hos hds (x:=vl) rfl (wpAny_bind (wpAny_field hos hds (x:=vu) rfl (wpAny_bind (wpAny_field hos hds (x:=.none) rfl (wpAny_pure ?_)))))))
 refine wpAny_bind (slicePart_none ?_)
 show wpAny _ _ (if((1:Int)==0)=true then _ else _) _ _ s
 rw[if_neg (by decide)]
 refine wpAny_bind (kZ pl (wpAny_bind (kZ pu (wpAny_bind (wpAny_pure ?_)))))
 show wpAny _ _ (match Builtin.Slice.sliceAdjust lo hi 1 (n:Int) with|(lo,hi)=>pure (lo,(1:Int),Builtin.Slice.slicePlaces lo hi 1)) _ _ s
 rw[zbl lo hi n]
 show wpAny _ _ (pure (((sIx n 0 lo:Nat):Int),(1:Int),Builtin.Slice.slicePlaces ((sIx n 0 lo:Nat):Int) ((sIx n n hi:Nat):Int) 1)) _ _ s
 rw[zaT]
 exact wpAny_pure h
theorem zdJ (xs:Array Value)(i k:Nat):((List.range k).filterMap fun(m:Nat)=>xs[((i:Int)+(m:Int)*1).toNat]?).toArray=((xs.toList.drop i).take k).toArray:=by
 have e:(fun(m:Nat)=>xs[((i:Int)+(m:Int)*1).toNat]?)=fun m=>xs[i+m]?:=by
  funext m
  have:((i:Int)+(m:Int)*1).toNat=i+m:=by omega
  rw[this]
 rw[e]
 have:=pick_run xs i k
 rw[List.filterMap_map] at this
 have e2:((fun x=>xs[x]?)∘fun x=>i+x)=fun m=>xs[i+m]?:=rfl
 rw[e2] at this
 rw[this]
theorem getItem_tuple_cut {t sl:Addr}{items:Array Value}{vl vu:Value}{lo hi:Option Int}{Q:Value→Shared→Prop}(ht:IsTup s.heap t items)(hs:s.heap.IsSliceOf sl vl vu .none)(pl:IsPart vl lo)(pu:IsPart vu hi)
 (hw:¬(sIx items.size 0 lo=0∧sIx items.size items.size hi=items.size))
 (h:Q (.ref s.heap.objs.size) { s with heap:=s.heap.push { cls:=.type "tuple",data:=.seq ((items.toList.drop (sIx items.size 0 lo)).take (sIx items.size items.size hi-sIx items.size 0 lo)).toArray } })
 (hsz:items.size≤sizeLine):wpAny (model prog w) A (getItem (.ref t) (.ref sl)) Q E s:=by
 have htake:sizeOk (.seq ((items.toList.drop (sIx items.size 0 lo)).take (sIx items.size items.size hi-sIx items.size 0 lo)).toArray):=by
  show((items.toList.drop (sIx items.size 0 lo)).take (sIx items.size items.size hi-sIx items.size 0 lo)).toArray.size≤sizeLine
  rw[List.size_toArray,List.length_take,List.length_drop,Array.length_toList]
  omega
 have hj:sIx items.size items.size hi≤items.size:=zgh _ _ (Nat.le_refl _) hi
 obtain⟨os,hos,hcs,hds⟩:=id hs
 have hTs:s.TypeIs (.ref sl) "slice":=⟨os,hos,hcs⟩
 unfold getItem
 try with_reducible refine wpAny_holding ?_
 first|refine wpAny_bind (wpAny_pure ?_)|skip
 refine wpAny_bind (wpAny_sequenceKey ht.typeIs (by decide) ?_)
 refine wpAny_bind (wpAny_callSpecial?_slot (name:=Str.ofString "__getitem__") ht.typeIs PyProof.Rows.slot_tuple_getitem
  (wpAny_call_entry PyProof.Rows.slot_tuple_getitem ht.typeIs entry_tuple_getitem ?_ (args_tuple_getitem _ _)))
 show wpAny _ _ (Builtin.Tuple.tupleItemsOf (.ref t) >>= _) _ _ s
 refine wpAny_bind (tupleItemsOf_ ht ?_)
 refine wpAny_bind (wpAny_typeOf hTs ?_)
 rw[if_pos (by decide)]
 refine wpAny_bind (j7 hs pl pu ?_)
 have hno:¬((((sIx items.size 0 lo:Nat):Int)==0&&(1:Int)==1&&(sIx items.size items.size hi-sIx items.size 0 lo)==items.size)=true):=by
  intro q
  rw[Bool.and_eq_true,Bool.and_eq_true] at q
  have q1:((sIx items.size 0 lo:Nat):Int)=0:=eq_of_beq q.1.1
  have q2:sIx items.size items.size hi-sIx items.size 0 lo=items.size:=eq_of_beq q.2
  exact hw ⟨by omega,by omega⟩
 show wpAny _ _ (if(((sIx items.size 0 lo:Nat):Int)==0&&(1:Int)==1&&(sIx items.size items.size hi-sIx items.size 0 lo)==items.size)=true then _ else _) _ _ s
 rw[if_neg hno,zdJ]
 first
  |exact wpAny_bind (m:=Builtin.Tuple.tupleExact _) (wpAny_newObj_type (wpAny_pure ⟨_,rfl,wpAny_pure h⟩) htake)
  |exact wpAny_bind (m:=Builtin.Tuple.tupleExact _) (wpAny_newObj_type (wpAny_bind (wpAny_pure (wpAny_pure ⟨_,rfl,wpAny_pure h⟩))) htake)
  |exact wpAny_bind (wpAny_bind (m:=Builtin.Tuple.tupleExact _) (wpAny_newObj_type (wpAny_pure (wpAny_pure ⟨_,rfl,wpAny_pure h⟩)) htake))
  |exact wpAny_bind (wpAny_bind (m:=Builtin.Tuple.tupleExact _) (wpAny_newObj_type (wpAny_pure ⟨_,rfl,wpAny_pure h⟩) htake))
end
end HT
namespace L2
open PySem PySem.Spec PyProof.Rows
section
abbrev TO:=St→Hp→(Option Int→Hp→Prop)→Prop
def PO (X:Cx)(e:Option Expr)(t:TO):Prop:=
 ∀(pins:List (Addr×Obj)) (s:Shared) (σ:St) (H:Hp) (Q:Option Int→Hp→Prop),Inv X pins σ H s→t σ H Q→
  wpAny (model X.prog X.w) X.A (evalPart e X.env) (fun u s'=>∃o H',Inv X pins σ H' s'∧IsPart u o∧Q o H') X.xe s
def zeM:TO:=fun _ H Q=>Q none H
def zgS (t:TE):TO:=fun σ H Q=>t σ H fun x H1=>∃i,x=.int i∧Q (some i) H1
theorem intsAre_of {ns:List Int}:∀{us:List Value},Vals (ns.map V.int) us→IntsAre us ns:=by
 induction ns with
 |nil=>intro us r;rw[List.map_nil] at r;cases r;exact .nil
 |cons n ns ih=>
  intro us r
  rw[List.map_cons] at r
  cases r with
  |cons r1 r2=>
   obtain⟨t,e⟩:=r1
   subst e
   exact .cons n t (ih r2)
section
variable {X:Cx}{e:Expr}{te:TE}{lo hi:Option Expr}{tl th:TO}{pos p2:Pos}
theorem kH:PO X none zeM:=by
 intro pins s σ H Q I h
 rw[evalPart_none]
 exact wpAny_pure ⟨none,H,I,.none,h⟩
theorem kG (h:PE X e te):PO X (some e) (zgS te):=by
 intro pins s σ H Q I hw
 rw[evalPart_some]
 refine thn (h pins s σ H _ I hw) fun u s1 ⟨x,H1,I1,r1,q1⟩=>?_
 obtain⟨i,rfl,q⟩:=q1
 obtain⟨t,rfl⟩:=r1
 exact⟨some i,H1,I1,.int i t,q⟩
def SlR (X:Cx)(r:V→Option Int→Option Int→Hp→VK→Prop):Prop:=
 ∀(pins:List (Addr×Obj)) (s:Shared) (σ:St) (H:Hp) (x:V) (v vl vu:Value) (lo hi:Option Int) (sl:Addr) (Q:VK),Inv X pins σ H s→RelV x v→s.heap.IsSliceOf sl vl vu .none→IsPart vl lo→IsPart vu hi→r x lo hi H Q→
  ∃T id,typeLookup (.type T) "__getitem__"=pure (some (.builtin id))∧s.TypeIs v T∧wpAny (model X.prog X.w) X.A (getItem v (.ref sl)) (EP X pins σ Q) X.xe s
theorem SlR.or {r r':V→Option Int→Option Int→Hp→VK→Prop}(h:SlR X r)(h':SlR X r'):SlR X (fun x lo hi H Q=>r x lo hi H Q∨r' x lo hi H Q):=by
 intro pins s σ H x v vl vu lo hi sl Q I rx hs pl pu q
 rcases q with q|q
 ·exact h pins s σ H x v vl vu lo hi sl Q I rx hs pl pu q
 ·exact h' pins s σ H x v vl vu lo hi sl Q I rx hs pl pu q
def tSl (r:V→Option Int→Option Int→Hp→VK→Prop)(te:TE)(tl th:TO):TE:=fun σ H Q=>te σ H fun x H1=>tl σ H1 fun l H2=>th σ H2 fun u H3=>r x l u H3 Q
theorem wM {r:V→Option Int→Option Int→Hp→VK→Prop}(hr:SlR X r)(he:PE X e te)(hl:PO X lo tl)(hu:PO X hi th):PE X (.Subscript e (.Slice lo hi none p2) pos) (tSl r te tl th):=by
 intro pins s σ H Q I h
 refine Subscript_ (thn (he pins s σ H _ I h) fun v s1 ⟨x,H1,I1,r1,q1⟩=>?_)
 refine wpAny_Slice (thn (hl pins s1 σ H1 _ I1 q1) fun vl s2 ⟨l,H2,I2,pl,q2⟩=>thn (hu pins s2 σ H2 _ I2 q2) fun vu s3 ⟨u,H3,I3,pu,q3⟩=>?_)
 rw[evalPart_none]
 refine wpAny_pure ?_
 have I4:Inv X pins σ H3 { s3 with heap:=s3.heap.push { cls:=.type "slice",data:=.fields #[vl,vu,.none] } }:=I3.kept (t':=s3.toks) fun b ob q=>Heap.get?_push_of_some _ q
 obtain⟨T,id,hT,ht,hg⟩:=hr pins { s3 with heap:=s3.heap.push { cls:=.type "slice",data:=.fields #[vl,vu,.none] } } σ H3 x v vl vu l u s3.heap.objs.size Q I4 r1 (Heap.IsSliceOf.new ..) pl pu q3
 show wpAny (model X.prog X.w) X.A (subscriptTail e (.Slice lo hi none p2) v (.ref s3.heap.objs.size)) (EP X pins σ Q) X.xe { s3 with heap:=s3.heap.push { cls:=.type "slice",data:=.fields #[vl,vu,.none] } }
 exact tail_any (ops:=[.ref s3.heap.objs.size,v]) ht hT hg (by with_unfolding_all rfl)
def za9 (xs:List V)(lo hi:Option Int):List V:=(xs.drop (HT.sIx xs.length 0 lo)).take (HT.sIx xs.length xs.length hi-HT.sIx xs.length 0 lo)
theorem zaq (xs:List V)(lo hi:Option Int):(za9 xs lo hi).length≤xs.length:=by
 unfold za9
 rw[List.length_take,List.length_drop]
 omega
def zh9 (K:PySem.W.Frag):V→Option Int→Option Int→Hp→VK→Prop:=fun x lo hi H Q=>∃a xs,x=.ref a∧SqT K H a xs∧
 ¬(HT.sIx xs.length 0 lo=0∧HT.sIx xs.length xs.length hi=xs.length)∧∀p,H p=none→Q (.ref p) (upd H p (.tup (za9 xs lo hi)))
theorem zgf:SlR X (zh9 X.K):=by
 intro pins s σ H x v vl vu lo hi sl Q I rx hs pl pu h
 obtain⟨a,xs,rfl,hx,hw,q⟩:=h
 cases rx
 obtain⟨its,r,ht,hz⟩:=I.tuple hx
 have hlen:its.toArray.size=xs.length:=by rw[List.size_toArray];exact r.length.symm
 refine⟨"tuple",_,PyProof.Rows.slot_tuple_getitem.lookup,ht.typeIs,?_⟩
 refine HT.getItem_tuple_cut ht hs pl pu (by rw[hlen];exact hw) ?_ (by rw[hlen];exact hz)
 rw[hlen]
 refine⟨.ref s.heap.objs.size,_,I.laid (t':=s.toks) (o:=.tup (za9 xs lo hi)) (fun b ob q=>Heap.get?_push_of_some _ q) (Nat.le_refl _) ?_,rfl,q _ (I.hok.fresh (Nat.le_refl _))⟩
 exact⟨Nat.le_trans (zaq xs lo hi) hz,_,(r.drop (HT.sIx xs.length 0 lo)).take (HT.sIx xs.length xs.length hi-HT.sIx xs.length 0 lo),IsTup.new _ _⟩
def zhl (K:PySem.W.Frag):R2:=fun x y H Q=>∃a b xs ys,x=.ref a∧y=.ref b∧SqT K H a xs∧SqT K H b ys∧xs≠[]∧xs.length+ys.length≤sizeLine∧
 (ys=[]→Q (.ref a) H)∧(ys≠[]→∀p,H p=none→Q (.ref p) (upd H p (.tup (xs++ys))))
theorem Vals.nil_iff {xs:List V}{us:List Value}(r:Vals xs us):us=[]↔xs=[]:=by
 cases r with
 |nil=>simp
 |cons _ _=>simp
theorem zfb:OpR X (binaryOp .Add) (zhl X.K):=by
 intro pins s σ H x y v u Q I rx ry h
 obtain⟨a,b,xs,ys,rfl,rfl,ha,hb,hx,hz,q1,q2⟩:=h
 cases rx
 cases ry
 obtain⟨its,r1,p1,_⟩:=I.tuple ha
 obtain⟨its2,r2,p2,_⟩:=I.tuple hb
 refine HT.cat_tup p1 p2 (fun z=>hx (r1.nil_iff.mp z)) (fun z=>⟨.ref a,H,I,rfl,q1 (r2.nil_iff.mp z)⟩) (fun z=>?_) (by rw[←r1.length,←r2.length];exact hz)
 refine⟨.ref s.heap.objs.size,_,I.laid (t':=s.toks) (o:=.tup (xs++ys)) (fun b ob q=>Heap.get?_push_of_some _ q) (Nat.le_refl _) ?_,rfl,q2 (fun w=>z (r2.nil_iff.mpr w)) _ (I.hok.fresh (Nat.le_refl _))⟩
 exact⟨by rw[List.length_append];exact hz,_,r1.append r2,IsTup.new _ _⟩
end
end
section
def ixN (n:Nat)(i:Int):Option Nat:=if 0≤i then(if i<n then some i.toNat else none) else if -(n:Int)≤i then some (i+n).toNat else none
def atI {α:Type}(xs:List α)(i:Int):Option α:=(ixN xs.length i).bind fun j=>xs[j]?
theorem zfs {n:Nat}{i:Int}{j:Nat}(h:ixN n i=some j):seqIndex? i n=some j∧j<n∧-(n:Int)≤i∧i<n:=by
 unfold ixN at h
 by_cases h0:0≤i
 ·rw[if_pos h0] at h
  by_cases h1:i<n
  ·rw[if_pos h1] at h
   have e:i.toNat=j:=Option.some.inj h
   exact⟨by rw[seqIndex_of h0 h1,e],by omega,by omega,h1⟩
  ·rw[if_neg h1] at h;cases h
 ·rw[if_neg h0] at h
  by_cases h1 : -(n:Int)≤i
  ·rw[if_pos h1] at h
   have e:(i+n).toNat=j:=Option.some.inj h
   exact⟨by rw[seqIndex_neg (by omega) h1,e],by omega,h1,by omega⟩
  ·rw[if_neg h1] at h;cases h
theorem kQ {α:Type}{xs:List α}{i:Int}{v:α}(h:atI xs i=some v):∃j,seqIndex? i xs.length=some j∧xs[j]?=some v∧j<xs.length∧-(xs.length:Int)≤i∧i<xs.length:=by
 unfold atI at h
 cases e:ixN xs.length i with
 |none=>rw[e] at h;cases h
 |some j=>
  rw[e] at h
  obtain⟨h1,h2,h3,h4⟩:=zfs e
  exact⟨j,h1,h,h2,h3,h4⟩
theorem qP {α:Type}{xs:List α}{j:Nat}{v:α}(h:xs[j]?=some v):atI xs (j:Int)=some v:=by
 have hj:j<xs.length:=(List.getElem?_eq_some_iff.mp h).1
 have e:ixN xs.length (j:Int)=some j:=by
  unfold ixN
  rw[if_pos (by omega),if_pos (by omega)];simp
 unfold atI;rw[e];exact h
theorem zeD {α:Type}(xs:List α)(v:α):atI (xs++[v]) (-1)=some v:=by
 have hl:(xs++[v]).length=xs.length+1:=by simp
 have e:ixN (xs++[v]).length (-1)=some xs.length:=by
  unfold ixN
  rw[hl,if_neg (by decide),if_pos (by omega)]
  congr 1
  omega
 unfold atI
 rw[e]
 show(xs++[v])[xs.length]?=some v
 simp
def zci (b:Expr):Prop:=∀o i,subscripted b false o i=operate [o,i] (getItem o i)
def IxR (X:Cx)(r:R2):Prop:=
 ∀(value slice:Expr) (pins:List (Addr×Obj)) (s:Shared) (σ:St) (H:Hp) (x y:V) (v u:Value) (Q:VK),Inv X pins σ H s→RelV x v→RelV y u→r x y H Q→
  subscripted slice false v u=operate [v,u] (getItem v u)→wpAny (model X.prog X.w) X.A (subscriptTail value slice v u) (EP X pins σ Q) X.xe s
def MtR (X:Cx)(id:String)(r:V→List V→Hp→VK→Prop):Prop:=
 ∀(pins:List (Addr×Obj)) (s:Shared) (σ:St) (H:Hp) (x:V) (xs:List V) (v:Value) (us:List Value) (Q:VK),Inv X pins σ H s→RelV x v→Vals xs us→r x xs H Q→
  wpAny (model X.prog X.w) X.A (call (.builtin id) (v::us)) (EP X pins σ Q) X.xe s
section
variable {X:Cx}{a b:Expr}{ta tb:TE}{pos:Pos}
theorem IxR.or {r r':R2}(h:IxR X r)(h':IxR X r'):IxR X (fun x y H Q=>r x y H Q∨r' x y H Q):=by
 intro value slice pins s σ H x y v u Q I rx ry q hs
 rcases q with q|q
 ·exact h value slice pins s σ H x y v u Q I rx ry q hs
 ·exact h' value slice pins s σ H x y v u Q I rx ry q hs
theorem MtR.or {id:String}{r r':V→List V→Hp→VK→Prop}(h:MtR X id r)(h':MtR X id r'):MtR X id (fun x xs H Q=>r x xs H Q∨r' x xs H Q):=by
 intro pins s σ H x xs v us Q I rx rs q
 rcases q with q|q
 ·exact h pins s σ H x xs v us Q I rx rs q
 ·exact h' pins s σ H x xs v us Q I rx rs q
theorem zJ {r:R2}(hr:IxR X r)(ha:PE X a ta)(hb:PE X b tb)(hs:zci b):PE X (.Subscript a b pos) (tOp r ta tb):=by
 intro pins s σ H Q I h
 exact Subscript_ (zgK ha hb I h fun v u s2 x y H2 I2 rx ry q=>hr a b pins s2 σ H2 x y v u Q I2 rx ry q (hs _ _))
def zhi (K:PySem.W.Frag):R2:=fun x y H Q=>∃p xs i v,x=.ref p∧y=.int i∧SqL K H p xs∧atI xs i=some v∧Q v H
def zgk (K:PySem.W.Frag):R2:=fun x y H Q=>∃p xs i v,x=.ref p∧y=.int i∧SqT K H p xs∧atI xs i=some v∧Q v H
def zig:R2:=fun x y H Q=>∃z i c,x=.str z∧y=.int i∧z.length≤sizeLine∧atI z.cps.toList i=some c∧Q (.str ⟨#[c]⟩) H
theorem zfr:IxR X (zhi X.K):=by
 intro value slice pins s σ H x y v u Q I rx ry h hs
 obtain⟨p,xs,i,z,rfl,rfl,hq,he,q⟩:=h
 cases rx
 obtain⟨t,rfl⟩:=ry
 obtain⟨its,r,pl,hz⟩:=I.list hq
 obtain⟨j,h1,h2,h3,h4,h5⟩:=kQ he
 obtain⟨w,ew,rw'⟩:=r.get h2
 have hl:=r.length
 have hn:=yt
 have fin:EP X pins σ Q w s:=⟨z,H,I,rw',q⟩
 by_cases h0:0≤i
 ·have hj:i.toNat=j:=by
   rw[seqIndex_of h0 h5] at h1
   exact Option.some.inj h1
  exact item_listR pl.isList h0 (by omega) (by rw[hj];simpa using ew) fin hs
 ·have hj:(i+(its.toArray.size:Int)).toNat=j:=by
   rw[seqIndex_neg (by omega) h4] at h1
   rw[List.size_toArray,←hl]
   exact Option.some.inj h1
  exact subscriptTail_builtinR (x:=w) pl.isList.typeIs slot_list_getitem.lookup
   (wpAny_getItem_list_neg (Q:=fun r s'=>r=w∧EP X pins σ Q r s') pl.isList (by omega) (by rw[List.size_toArray]<;>omega) (by omega) (by rw[hj];simpa using ew) ⟨rfl,fin⟩) hs
theorem zgF:IxR X (zgk X.K):=by
 intro value slice pins s σ H x y v u Q I rx ry h hs
 obtain⟨p,xs,i,z,rfl,rfl,hq,he,q⟩:=h
 cases rx
 obtain⟨t,rfl⟩:=ry
 obtain⟨its,r,pl,hz⟩:=I.tuple hq
 obtain⟨j,h1,h2,h3,h4,h5⟩:=kQ he
 obtain⟨w,ew,rw'⟩:=r.get h2
 have hl:=r.length
 have hn:=yt
 have fin:EP X pins σ Q w s:=⟨z,H,I,rw',q⟩
 exact subscriptTail_builtinR (x:=w) pl.typeIs slot_tuple_getitem.lookup
  (getItem_tuple (j:=j) (Q:=fun r s'=>r=w∧EP X pins σ Q r s') pl (by omega) (by omega) (by rw[List.size_toArray,←hl];exact h1) (by simpa using ew) ⟨rfl,fin⟩) hs
theorem zek:IxR X zig:=by
 intro value slice pins s σ H x y v u Q I rx ry h hs
 obtain⟨z,i,c,rfl,rfl,hz,he,q⟩:=h
 obtain⟨t,rfl⟩:=rx
 obtain⟨t',rfl⟩:=ry
 obtain⟨j,h1,h2,h3,h4,h5⟩:=kQ he
 have hl:z.cps.toList.length=z.length:=by simp[Str.length]
 rw[hl] at h1 h4 h5
 have hn:=yt
 exact tail_any (typeIs_str s z t) slot_str_getitem.lookup (getItem_str (c:=c) (by
  have e1:decide (i < -(2^63:Int))=false:=decide_eq_false (by omega)
  have e2:decide (i≥2^63)=false:=decide_eq_false (by omega)
  rw[e1,e2,Bool.or_false]) (by rw[h1];simpa using h2) ⟨.str ⟨#[c]⟩,H,I.tok _,⟨_,rfl⟩,q⟩) hs
theorem Inv.lst {pins:List (Addr×Obj)}{σ:St}{H:Hp}{s:Shared}{p:Addr}{xs:List V}(I:Inv X pins σ H s)(h:H p=some (.lst xs)) :
 ∃(its:List Value) (n:Nat),Vals xs its∧s.heap.get? p=some { cls:=.type "list",data:=.seq its.toArray n }∧xs.length≤sizeLine:=by
 obtain⟨z,its,n,r,e⟩:=I.hok p _ h
 exact⟨its,n,r,e,z⟩
def yN:V→Bool
 | .non=>true
 | .bl _=>true
 | .int _=>true
 | .str _=>true
 |_=>false
def eqV:V→V→Bool
 | .non,.non=>true
 | .bl a,.bl b=>a==b
 | .bl a,.int b=>(if a then 1 else 0)==b
 | .int a,.bl b=>a==(if b then 1 else 0)
 | .int a,.int b=>a==b
 | .str a,.str b=>a==b
 |_,_=>false
theorem zet {A:Around}{s:Shared}{y x:V}{u v:Value}(ry:RelV y u)(rx:RelV x v)(fy:yN y=true)(fx:yN x=true):SeqAt.EqAt A s u v (eqV y x):=by
 cases y with
 |non=>
  cases ry
  cases x with
  |non=>cases rx;exact SeqAt.EqAt.same _
  |bl b=>cases rx;exact SeqAt.EqAt.none_bool b
  |int b=>obtain⟨t,rfl⟩:=rx;exact SeqAt.EqAt.none_int b t
  |str b=>obtain⟨t,rfl⟩:=rx;exact SeqAt.EqAt.none_str b t
  |_=>exact absurd (show false=true from fx) Bool.false_ne_true
 |bl a=>
  cases ry
  cases x with
  |non=>cases rx;exact SeqAt.EqAt.bool_none a
  |bl b=>cases rx;exact SeqAt.EqAt.bool_bool a b
  |int b=>obtain⟨t,rfl⟩:=rx;exact SeqAt.EqAt.bool_int a b t
  |str b=>obtain⟨t,rfl⟩:=rx;exact SeqAt.EqAt.bool_str a b t
  |_=>exact absurd (show false=true from fx) Bool.false_ne_true
 |int a=>
  obtain⟨t',rfl⟩:=ry
  cases x with
  |non=>cases rx;exact SeqAt.EqAt.int_none a t'
  |bl b=>cases rx;exact SeqAt.EqAt.int_bool a t' b
  |int b=>obtain⟨t,rfl⟩:=rx;exact SeqAt.EqAt.int_int a t' b t
  |str b=>obtain⟨t,rfl⟩:=rx;exact SeqAt.EqAt.int_str a t' b t
  |_=>exact absurd (show false=true from fx) Bool.false_ne_true
 |str a=>
  obtain⟨t',rfl⟩:=ry
  cases x with
  |non=>cases rx;exact SeqAt.EqAt.str_none a t'
  |bl b=>cases rx;exact SeqAt.EqAt.str_bool a t' b
  |int b=>obtain⟨t,rfl⟩:=rx;exact SeqAt.EqAt.str_int a t' b t
  |str b=>obtain⟨t,rfl⟩:=rx;exact SeqAt.EqAt.str_str a t' b t
  |_=>exact absurd (show false=true from fx) Bool.false_ne_true
 |_=>exact absurd (show false=true from fy) Bool.false_ne_true
theorem dS:CallR X (.builtin "len") (fun xs H Q=>∃p ys,xs=[.ref p]∧(SqL X.K H p ys∨SqT X.K H p ys)∧Q (.int ys.length) H):=by
 intro pins s σ H xs us Q I r h
 obtain⟨p,ys,rfl,hq,q⟩:=h
 obtain⟨u,rfl,rx⟩:=vals1 r
 cases rx
 have hn:=yt
 rcases hq with hq|hq
 ·obtain⟨its,r',pl,hz⟩:=I.list hq
  have hlen:=r'.length
  exact Calls.call_len_list pl.isList (by simp only[List.size_toArray]<;>omega) ⟨.int ys.length,H,I.tok _,⟨s.toks+1,by rw[List.size_toArray,hlen]⟩,q⟩
 ·obtain⟨its,r',pl,hz⟩:=I.tuple hq
  have hlen:=r'.length
  exact len_tuple pl (by simp only[List.size_toArray]<;>omega) ⟨.int ys.length,H,I.tok _,⟨s.toks+1,by rw[List.size_toArray,hlen]⟩,q⟩
theorem jm:CallR X (.builtin "len") (fun xs H Q=>∃z,xs=[.str z]∧z.length≤sizeLine∧Q (.int z.length) H):=by
 intro pins s σ H xs us Q I r h
 obtain⟨z,rfl,hz,q⟩:=h
 obtain⟨u,rfl,t,rfl⟩:=vals1 r
 have hn:=yt
 exact len_str (by omega) ⟨.int z.length,H,I.tok _,⟨_,rfl⟩,q⟩
theorem CallR.or {f:Value}{r r':List V→Hp→VK→Prop}(h:CallR X f r)(h':CallR X f r'):CallR X f (fun xs H Q=>r xs H Q∨r' xs H Q):=by
 intro pins s σ H xs us Q I rs q
 rcases q with q|q
 ·exact h pins s σ H xs us Q I rs q
 ·exact h' pins s σ H xs us Q I rs q
theorem dR:CallR X (.type "list") (fun xs H Q=>∃p ys,xs=[.ref p]∧(SqL X.K H p ys∨SqT X.K H p ys)∧∀l,H l=none→Q (.ref l) (upd H l (.lst ys))):=by
 intro pins s σ H xs us Q I r h
 obtain⟨p,ys,rfl,hq,q⟩:=h
 obtain⟨u,rfl,rx⟩:=vals1 r
 cases rx
 have fin:∀(its:List Value),Vals ys its→ys.length≤sizeLine→∀(h':Heap) (c':Nat),(∀b o',s.heap.get? b=some o'→h'.get? b=some o')→
  h'.get? s.heap.objs.size=some { cls:=.type "list",dict:=none,data:=.seq its.toArray c',slots:=#[] }→EP X pins σ Q (.ref s.heap.objs.size) { s with heap:=h' }:=fun its r' hz h' c' kp e=>
  ⟨.ref s.heap.objs.size,_,I.laid (t':=s.toks) kp (Nat.le_refl _) (show ObjOk X.prog X.w _ h' _ (.lst ys) from⟨hz,its,c',r',e⟩),rfl,q _ (I.hok.fresh (Nat.le_refl _))⟩
 rcases hq with hq|hq
 ·obtain⟨its,r',pl,hz⟩:=I.list hq
  have hlen:=r'.length
  obtain⟨o,ho,hc,n,hd⟩:=pl.isList
  exact call_list_seq p (.inl rfl) ho hc hd (fun h' c' kp e=>fin its r' hz h' c' kp e) (by simp only[List.size_toArray]<;>omega)
 ·obtain⟨its,r',pl,hz⟩:=I.tuple hq
  have hlen:=r'.length
  obtain⟨o,ho,hc,n,hd⟩:=pl
  exact call_list_seq p (.inr rfl) ho hc hd (fun h' c' kp e=>fin its r' hz h' c' kp e) (by simp only[List.size_toArray]<;>omega)
theorem fG:CallR X (.type "tuple") (fun xs H Q=>∃p ys,xs=[.ref p]∧((SqL X.K H p ys∧∀l,H l=none→Q (.ref l) (upd H l (.tup ys)))∨(SqT X.K H p ys∧Q (.ref p) H))):=by
 intro pins s σ H xs us Q I r h
 obtain⟨p,ys,rfl,h⟩:=h
 obtain⟨u,rfl,rx⟩:=vals1 r
 cases rx
 rcases h with⟨hq,q⟩|⟨hq,q⟩
 ·obtain⟨its,r',pl,hz⟩:=I.list hq
  have hlen:=r'.length
  refine call_tuple_list pl.isList (fun h' kp=>?_) (by simp only[List.size_toArray]<;>omega)
  have I1:Inv X pins σ H { s with heap:=h' }:=I.kept (t':=s.toks) kp
  have I2:Inv X pins σ (upd H h'.objs.size (.tup ys)) { s with heap:=h'.push { cls:=.type "tuple",data:=.seq its.toArray } }:=
   I1.laid (t':=s.toks) (fun b o e=>Heap.get?_push_of_some _ e) (Nat.le_refl _) (show ObjOk X.prog X.w _ _ _ (.tup ys) from⟨hz,its,r',IsTup.new _ _⟩)
  exact⟨.ref h'.objs.size,_,I2,rfl,q _ (I1.hok.fresh (Nat.le_refl _))⟩
 ·obtain⟨its,r',pl,hz⟩:=I.tuple hq
  exact call_tuple_same pl ⟨.ref p,H,I,rfl,q⟩
def tyV (K:PySem.W.Frag)(T:String)(x:V)(H:Hp):Prop:=match x with
 | .str _=>T="str"
 | .int _=>T="int"
 | .ref p=>(T="list"∧∃xs,SqL K H p xs)∨(T="tuple"∧∃o,K.lookup p=some o∧o.cls=.type "tuple"∧o.dict=none)∨
  (T="dict"∧((∃kvs,H p=some (.dK kvs))∨∃kvs,H p=some (.dT kvs)))∨(T="set"∧∃S n,H p=some (.set S n))
 |_=>False
theorem zdj {pins:List (Addr×Obj)}{σ:St}{H:Hp}{s:Shared}{T:String}{x:V}{v:Value}(I:Inv X pins σ H s)(r:RelV x v)(ty:tyV X.K T x H) :
 s.TypeIs v T∧∀a,v=.ref a→∃ob,s.heap.get? a=some ob∧ob.dict=none:=by
 cases x with
 |str z=>
  obtain⟨t,rfl⟩:=r
  cases(show T="str" from ty)
  exact⟨typeIs_str s z t,fun _ e=>nomatch e⟩
 |int i=>
  obtain⟨t,rfl⟩:=r
  cases(show T="int" from ty)
  exact⟨typeIs_int s i t,fun _ e=>nomatch e⟩
 |ref p=>
  cases r
  rcases ty with⟨rfl,xs,hq⟩|⟨rfl,o,hk,hc,hd⟩|⟨rfl,hk⟩|⟨rfl,S,n,hk⟩
  ·obtain⟨its,_,pl,_⟩:=I.list hq
   refine⟨pl.isList.typeIs,fun a e=>?_⟩
   cases e
   obtain⟨o,n,e,c,hd,_⟩:=pl
   exact⟨o,e,hd⟩
  ·refine⟨⟨o,I.kIn p o hk,hc⟩,fun a e=>?_⟩
   cases e
   exact⟨o,I.kIn _ o hk,hd⟩
  ·have z:∃o,s.heap.get? p=some o∧o.ExactDict:=by
    rcases hk with⟨kvs,hk⟩|⟨kvs,hk⟩
    ·obtain⟨_,_,_,_,o,_,_,e,ex,_⟩:=I.hok p _ hk
     exact⟨o,e,ex⟩
    ·obtain⟨_,_,_,_,o,_,_,e,ex,_⟩:=I.hok p _ hk
     exact⟨o,e,ex⟩
   obtain⟨o,e,ex⟩:=z
   refine⟨⟨o,e,ex.1⟩,fun a e2=>?_⟩
   cases e2
   exact⟨o,e,ex.2.1⟩
  ·obtain⟨o,_,_,_,e,ex,_⟩:=I.hok p _ hk
   refine⟨⟨o,e,ex.1⟩,fun a e2=>?_⟩
   cases e2
   exact⟨o,e,ex.2.1⟩
 |_=>exact False.elim ty
def tBM (K:PySem.W.Frag)(T:String)(r:V→List V→Hp→VK→Prop)(to:TE)(t:TA):TE:=fun σ H Q=>to σ H fun x H1=>tyV K T x H1∧t σ H1 fun xs H2=>r x xs H2 Q
variable {o e:Expr}{es:List Expr}{to:TE}{t:TA}{name:Str}{apos cpos:Pos}{T id:String}{r:V→List V→Hp→VK→Prop}
theorem gq (pa:PlainAttrs T)(slot:Slot T name id)(hty:typeOf (.builtin id)=pure (.type "method_descriptor"))(hm:MtR X id r)(ho:PE X o to)(ha:PA X (e::es) t)
 (hbase:attributeBase o name X.env (eval o X.env)=eval o X.env:=by rfl)
 (hfew:((backTo cpos (starEach (e::es) X.env)).all (fun x=>!x.1)&&(backToKw cpos (keywordEach [] X.env)).all (fun x=>x.1.isSome)
   && decide ((e::es).length+([]:List Keyword).length+(if([]:List Keyword).isEmpty then 0 else 1)<30))=true:=by rfl)
 (hline:(apos.endLine==cpos.line)=true:=by rfl) (hs:starEach (e::es) X.env=(false,eval e X.env)::starEach es X.env:=by rfl) (hplain:(backTo cpos (starEach es X.env)).any (·.1)=false:=by rfl) :
 PE X (.Call (.Attribute o name apos) (e::es) [] cpos) (tBM X.K T r to t):=by
 intro pins s σ H Q I h
 refine wpAny_Call_method_late hbase hfew hline rfl (thn (ho pins s σ H _ I h) fun v s1 ⟨x,H1,I1,r1,ty,q1⟩=>?_)
 obtain⟨h1,h2⟩:=zdj I1 r1 ty
 refine⟨T,id,pa,slot,hty,h1,h2,?_⟩
 have hA:=ha cpos pins s1 σ H1 _ I1 q1
 rw[hs] at hA ⊢
 refine Calls.callWith_builtin (by show(false||(backTo cpos (starEach es X.env)).any (·.1))=false;rw[hplain]<;>rfl) (Calls.evalArgs_plain ?_)
 exact thn hA fun us s2 ⟨vs,H2,I2,r2,q2⟩=>hm pins s2 σ H2 x vs v us Q I2 r1 r2 q2
end
end
section
def MtM (X:Cx)(id:String)(r:V→List V→Hp→VK→Prop):Prop:=
 ∀(pins:List (Addr×Obj)) (s:Shared) (σ:St) (H:Hp) (x:V) (xs:List V) (v:Value) (us:List Value) (Q:VK),Inv X pins σ H s→RelV x v→Vals xs us→r x xs H Q→
  wpAny (model X.prog X.w) X.A (call (.builtin id) (v::us)) (EP X pins σ Q) X.xe s
theorem Vals.one:∀{x:V}{us:List Value},Vals [x] us→∃u,us=[u]∧RelV x u
 |_,_,.cons r .nil=>⟨_,rfl,r⟩
theorem Vals.two:∀{x y:V}{us:List Value},Vals [x,y] us→∃u v,us=[u,v]∧RelV x u∧RelV y v
 |_,_,_,.cons r (.cons q .nil)=>⟨_,_,rfl,r,q⟩
theorem Vals.rep {xs:List V}{us:List Value}(h:Vals xs us):∀k:Nat,Vals (List.replicate k xs).flatten (List.replicate k us).flatten
 |0=>.nil
 |k+1=>by
  rw[List.replicate_succ,List.replicate_succ,List.flatten_cons,List.flatten_cons]
  exact Vals.append h (Vals.rep h k)
theorem foldl_rep (its:List Value):∀(k:Nat) (acc:List Value),
 List.foldl (fun x1 x2=>x1++x2) acc.toArray (List.replicate k its.toArray)=(acc++(List.replicate k its).flatten).toArray
 |0,acc=>by simp
 |k+1,acc=>by
  have e:acc.toArray++its.toArray=(acc++its).toArray:=by simp
  have e2:(acc++its)++(List.replicate k its).flatten=acc++(List.replicate (k+1) its).flatten:=by
   rw[List.replicate_succ,List.flatten_cons,List.append_assoc]
  rw[←e2,←foldl_rep its k (acc++its),←e,List.replicate_succ,List.foldl_cons]
section
variable {X:Cx}{pins:List (Addr×Obj)}{σ:St}{H:Hp}{s:Shared}{l b:Addr}{xs ys zs:List V}
theorem Inv.lset {its its':List Value}{n:Nat}{f:Array Value→Array Value}{t':Nat}(I:Inv X pins σ H s)(hH:H l=some (.lst xs))
 (e:s.heap.get? l=some { cls:=.type "list",data:=.seq its.toArray n }) (hf:f its.toArray=its'.toArray) (hv:Vals ys its') (hz:ys.length≤sizeLine) :
 Inv X pins σ (upd H l (.lst ys)) { s with heap:=s.heap.update l (Obj.mapSeq f),toks:=t' }:=by
 have q:=PySem.IsL.update e f
 rw[hf] at q
 refine I.write (x:=l) (e:=l) (by rw[hH];exact trivial) (.inl rfl) (fun b' u hb hu=>(Heap.get?_update_other s.heap (Obj.mapSeq f) (Ne.symm hb)).trans hu) ⟨_,q⟩ ?_
 exact⟨hz,its',_,hv,q⟩
theorem Inv.lnew {its:List Value}{t':Nat}(I:Inv X pins σ H s)(hv:Vals ys its)(hz:ys.length≤sizeLine) :
 Inv X pins σ (upd H s.heap.objs.size (.lst ys)) { s with heap:=s.heap.push { cls:=.type "list",data:=.seq its.toArray },toks:=t' }:=
 I.laid (fun _ _ q=>Heap.get?_push_of_some _ q) (Nat.le_refl _) ⟨hz,its,0,hv,Heap.get?_push_size _ rfl⟩
theorem Inv.fresh (I:Inv X pins σ H s):H s.heap.objs.size=none:=I.hok.fresh (Nat.le_refl _)
theorem Inv.lstM (I:Inv X pins σ H s)(hH:H l=some (.lst xs)):xs.length≤sizeLine∧∃(its:List Value) (n:Nat),Vals xs its∧xs.length=its.length∧s.heap.get? l=some { cls:=.type "list",data:=.seq its.toArray n }:=by
 obtain⟨z,its,n,r,e⟩:=I.hok l _ hH
 exact⟨z,its,n,r,r.length,e⟩
theorem zea {n:Nat}(h:n≤sizeLine):Builtin.List.listTooLong n=false:=by
 unfold Builtin.List.listTooLong
 exact decide_eq_false (by omega)
end
section
variable {X:Cx}
def zeY:V→List V→Hp→VK→Prop:=fun x vs H Q=>∃l xs y,x=.ref l∧vs=[y]∧H l=some (.lst xs)∧xs.length<sizeLine∧Q .non (upd H l (.lst (xs++[y])))
theorem yr:MtM X "list.append" zeY:=by
 intro pins s σ H x vs v us Q I rx rv h
 obtain⟨l,xs,y,rfl,rfl,hH,hz,q⟩:=h
 cases rx
 obtain⟨u,rfl,ru⟩:=rv.one
 obtain⟨z,its,n,r,hl,e⟩:=I.lstM hH
 refine call_meets F.slot_list_append ⟨_,e,rfl⟩ F.entry_list_append (F.args_list_append_2 _ _) (PySem.list_append l its.toArray n u (by rw[List.size_toArray];omega)) ⟨e,?_⟩
 refine⟨.non,_,I.lset (its':=its++[u]) hH e (by simp) (r.append (.cons ru .nil)) ?_,rfl,q⟩
 rw[List.length_append,List.length_singleton]
 omega
def zih:R2:=fun x y H Q=>∃l b xs zs,x=.ref l∧y=.ref b∧H l=some (.lst xs)∧H b=some (.lst zs)∧xs.length+zs.length≤sizeLine∧∀p,H p=none→Q (.ref p) (upd H p (.lst (xs++zs)))
theorem qg:OpR X (binaryOp .Add) zih:=by
 intro pins s σ H x y v u Q I rx ry h
 obtain⟨l,b,xs,zs,rfl,rfl,hH,hB,hz,q⟩:=h
 cases rx
 cases ry
 obtain⟨z,its,n,r,hl,e⟩:=I.lstM hH
 obtain⟨z2,its2,n2,r2,hl2,e2⟩:=I.lstM hB
 refine PySem.P.add_list e e2 ?_ (by rw[List.size_toArray,List.size_toArray];omega)
 have ea:its.toArray++its2.toArray=(its++its2).toArray:=by simp
 rw[ea]
 exact⟨.ref _,_,I.lnew (t':=s.toks) (r.append r2) (by rw[List.length_append];omega),rfl,q _ I.fresh⟩
def zic:R2:=fun x y H Q=>∃l k xs,x=.ref l∧y=.int k∧H l=some (.lst xs)∧-(2^63)≤k∧k<2^63∧xs.length*k.toNat≤sizeLine∧
 ∀p,H p=none→Q (.ref p) (upd H p (.lst (List.replicate k.toNat xs).flatten))
theorem len_rep {α:Type}(xs:List α)(k:Nat):(List.replicate k xs).flatten.length=k*xs.length:=by
 induction k with
 |zero=>simp
 |succ k ih=>rw[List.replicate_succ,List.flatten_cons,List.length_append,ih,Nat.succ_mul,Nat.add_comm]
theorem zgr:OpR X (binaryOp .Mult) zic:=by
 intro pins s σ H x y v u Q I rx ry h
 obtain⟨l,k,xs,rfl,rfl,hH,h1,h2,hz,q⟩:=h
 cases rx
 obtain⟨t,rfl⟩:=ry
 obtain⟨z,its,n,r,hl,e⟩:=I.lstM hH
 have hlen:its.toArray.size*k.toNat≤sizeLine:=by rw[List.size_toArray,←hl];exact hz
 have hcap:¬its.toArray.size*k.toNat>(2^63-1)/8:=by
  have:(sizeLine:Nat)≤(2^63-1)/8:=by decide
  omega
 have hfit:¬(!Builtin.List.listFitsIndex k)=true:=by
  rw[fitsIndex_both h1 h2]
  exact Bool.false_ne_true
 have hlong:¬Builtin.List.listTooLong (its.toArray.size*k.toNat)=true:=by
  rw[zea hlen]
  exact Bool.false_ne_true
 have hnew:List.foldl (fun x1 x2=>x1++x2) #[] (List.replicate (if its.toArray.isEmpty=true then 0 else k.toNat) its.toArray)=(List.replicate k.toNat its).flatten.toArray:=by
  have f0:∀m:Nat,List.foldl (fun x1 x2=>x1++x2) #[] (List.replicate m its.toArray)=(List.replicate m its).flatten.toArray:=fun m=>by
   have:=foldl_rep its m []
   rw[List.nil_append] at this
   exact this
  rw[f0]
  cases its with
  |nil=>simp
  |cons a r'=>rw[if_neg (by simp)]
 refine wpAny_binaryOp_repeat_ref (T:="list") (U:="int") (by decide) ⟨_,e,rfl⟩ (fun s'=>typeIs_int s' k t) noFill_list_mul F.fills_int_mul F.slot_int_rmul repeat_list F.slot_int_index.lookup
  (call_meets F.slot_int_rmul (typeIs_int s k t) F.entry_int_rmul (F.args_int_rmul_2 _ _) (int___rmul___int_list k t l its.toArray n)
    ⟨e,rfl,⟨_,e,rfl⟩,call_meets F.slot_list_mul ⟨_,e,rfl⟩ F.entry_list_mul (F.args_list_mul_2 _ _) (AutoListH.list___mul___list_int_3 l its.toArray n k t hfit hcap hlong) ⟨e,?_⟩⟩)
 rw[hnew]
 exact⟨.ref _,_,I.lnew (t':=s.toks) (r.rep k.toNat) (by rw[len_rep,Nat.mul_comm];exact hz),rfl,q _ I.fresh⟩
end
section
variable {prog:Program}{w:World}{A:Around}{E:Value→Shared→Prop}{s:Shared}
end
section
variable {X:Cx}
end
end
end L2
namespace Att
open PySem PySem.W PySem.Calls PyProof.Rows
theorem ke {P:Params}{h:Heap}:∀(ns:List Int) (vs:List Value),WellAll P h vs (ns.map WData.int)→IntsAre vs ns:=by
 intro ns
 induction ns with
 |nil=>
  intro vs w
  rw[List.map_nil] at w
  cases w
  exact .nil
 |cons n ns ih=>
  intro vs w
  rw[List.map_cons] at w
  cases w with
  |cons a b=>
   cases a
   exact .cons _ _ (ih _ b)
theorem zcs {l:OpenLaw}{n:Nat}(hn:l.most=some n){P:Params}{h:Heap}{args:List WData}{vals:List Value}
 (hpre:l.row.toRowW.claim.pre args=true) (hwl:WellAll P h vals args) :
 ∃a vs ns,vals=[Value.ref a]∧args=[WData.list (ns.map WData.int)]∧h.get? a=some { cls:=.type "list",data:=.seq vs.toArray }∧IntsAre vs ns∧ns.length≤n:=by
 have hsh:WShape.hasAll [] args [.list .int]=true:=(pre_splitW hpre).1
 have hc:l.pre.holds [] { args:=args }=true:=(pre_splitW hpre).2
 obtain⟨d,r,rfl,h1,h2⟩:=hasAllW_cons hsh
 obtain rfl:=hasAllW_nil h2
 obtain⟨xs,rfl,h3⟩:=hasW_list h1
 obtain⟨ns,rfl⟩:=items_int h3
 have hlen:ns.length≤n:=by
  unfold OpenLaw.pre at hc
  have h4:(WTm.not (.lt (.lit (.int (n:Int))) (.len (.arg 0)))).holds [] { args:=[.list (ns.map .int)] }=true:=by
   have h4:=(holds_andW hc).1
   rw[hn] at h4
   exact h4
  have h5:=condW_of h4 (w_not (w_lt w_lit (w_len_list (w_arg rfl))))
  rw[List.length_map] at h5
  refine Nat.le_of_not_lt fun q=>?_
  have q':(n:Int)<((ns.length:Nat):Int):=by omega
  first
   |(rw[decide_eq_true q'] at h5;exact absurd h5 (by decide))
   |(simp at h5;omega)
 cases hwl with
 |cons w1 w2=>
  cases w2
  cases w1 with
  |list ho hall=>exact⟨_,_,ns,rfl,rfl,ho,ke ns _ hall,hlen⟩
theorem zcx (l:OpenLaw)(args:List WData):l.row.toRowW.claim.post args (.bool true) args=true:=
 postW_of (r:=l.row.toRowW) (X:=(true==true))
  (show WShape.has [] (.bool true) .bool=true by first|rfl|decide|simp[WShape.has,WShape.arms,WShape.armsAll])
  (show(WTm.eq .res (.lit (.bool true))).value [] { args:=args,res:=some (.bool true),after:=args }=some (.bool (true==true)) from w_eq_bool (w_res rfl) w_lit) rfl
theorem attach_call {l:OpenLaw}{n:Nat}{q:Program}{loose:List Str}{XP:(Str→Option Value)→Heap→Prop}{YP:World→Heap→Prop}{d:DefRec}
 (hn:l.most=some n) (hdf:d.params.defaults=[])
 (call:∀(w:World) (s₀ s₁:Shared) (mg mb:Str→Option Value) (fa:Addr) (o:Obj) (pm cd doc:Value) (a:Addr) (vs:List Value) (ns:List Int),
   Ground q loose [] XP w s₀ mg mb s₁.heap→YP w s₁.heap→
   s₁.heap.get? fa=some o→o.data=.func (docDef d.name d.params d.body d.scope pm cd doc)→s₁.heap.CodeRec cd d.name→mg d.name=some (.ref fa)→
   s₁.heap.get? a=some { cls:=.type "list",data:=.seq vs.toArray }→IntsAre vs ns→ns.length≤n→s₁.gens = #[]→
   codeAny (model l.prog w) callerA (.call (.ref fa) ⟨[.ref a],[]⟩) (fun r s'=>r=.ok (.ret (.bool true))∧OldK s₁.heap s'.heap∧s'.os=s₁.os∧AllBare s'.gens) s₁) :
 WalkO q loose XP YP l.row.toRowW d [] (fun f vs=>PySem.call f vs):=by
 intro w s₀ s₁ mg mb G Y fa o pm cd doc dV kV ho hd hcd hD hmg hg args vals as hpre hlay hrd hwl hlo
 obtain rfl:dV=.none:=Dflts.none hD hdf
 obtain rfl:kV=.none:=Dflts.noKw hD
 obtain⟨a,vs,ns,rfl,rfl,hobj,hints,hlen⟩:=zcs hn hpre hwl
 refine enter_call (codeAny_mono (call w s₀ s₁ mg mb fa o pm cd doc a vs ns G Y ho (fd_plain hd) hcd hmg hobj hints hlen hg) fun r s' hq=>?_)
 obtain⟨rfl,h2,h3,h4⟩:=hq
 exact⟨.inl ⟨.bool true,.bool true,[],rfl,fun _=>rfl,.bool true,zcx l _,fun _=>⟨List.Pairwise.nil,fun _ hm=>(nomatch hm)⟩⟩,h2,h3,h4⟩
section
variable {prog:Program}{w:World}{A:Around}{E:Value→Shared→Prop}{s:Shared}{K:Frag}
end
end Att
namespace L2
open PySem PySem.Spec PyProof.Rows
section
theorem fV:∀{vs:List Value}{ns:List Int},IntsAre vs ns→Vals (ns.map V.int) vs
 |_,_,.nil=>.nil
 |_,_,.cons n t h=>.cons ⟨t,rfl⟩ (fV h)
end
section
end
section
def inClass (s:Stmt)(j:Nat):Stmt:=match s with
 | .ClassDef _ _ _ body _ _ _ _ _ _ _=>body.getD j (.Pass ⟨0,0,0,0⟩)
 |_=>.Pass ⟨0,0,0,0⟩
def xB (s:Stmt):Arguments:=match s with
 | .FunctionDef _ a _ _ _ _ _ _ _ _=>a
 |_=>{ posonlyargs:=[],args:=[],vararg:=none,kwonlyargs:=[],kw_defaults:=[],kwarg:=none,defaults:=[] }
def qE (s:Stmt):List Stmt:=match s with
 | .FunctionDef _ _ b _ _ _ _ _ _ _=>b
 |_=>[]
def zd (s:Stmt):Scope:=match s with
 | .FunctionDef _ _ _ _ _ _ sc _ _ _=>sc
 |_=>{ kind:=.function,names:=[],isGenerator:=false,isCoroutine:=false }
abbrev CX0:CXT:=fun _ _ _ _ _ _=>False
abbrev E0:XK:=fun _ _ _=>False
theorem zv {X:Cx}:je CX0 X E0:=fun _ _ _ _ _ _ _ h=>h.elim
structure Fun (K:PySem.W.Frag)(x qual:Str)(st:Stmt)(f:Addr)(fd:FuncData):Prop where
 ex:∃(oc:Value) (od:Option Addr) (kV doc pm:Value) (an:Option Addr) (cdv ct:Value) (osl:Array (Option Value)),
  fd=PySem.W.fnOf x qual (xB st) (qE st) (zd st) .none kV doc pm an cdv ct∧K.lookup f=some ⟨oc,od,.func fd,osl⟩∧PySem.W.codeIn K cdv qual=true
 kp:PySem.W.keepIn K (.ref f)=true
section
variable {P:Program}{w:World}{K:PySem.W.Frag}{mg:Str→Option Value}{base:Heap}
theorem Fun.ok {x qual:Str}{st:Stmt}{f:Addr}{fd:FuncData}{N ps:List Str}{k:Nat}{sp:Sp}(F:Fun K x qual st f fd)(S:zl N ps (zd st))(len:∀vs H Q E,sp vs H Q E→vs.length=ps.length)
 (hbody:∀(cdv:Value) (A:Around) (outer:List Env) (s:Shared) (H:Hp) (vs:List V) (Q:VK) (E:XK),Room k (A.deeper (envOfC qual (zd st) s.heap.objs.size f cdv))→sp vs H Q E→
   ∃t,PSs (v9 CX0 P w K mg base N qual (zd st) f cdv A outer s H E).nox (qE st) t∧t { nx:=fun _ H'=>Q .non H',rt:=Q } (start N vs) H):FnOk P w K mg base CX0 (k+1) f fd ps sp:=by
 obtain⟨oc,od,kV,doc,pm,an,cdv,ct,osl,rfl,lk,hcd⟩:=F.ex
 refine zep lk hcd S len fun A outer s H vs Q E hr hsp=>?_
 obtain⟨t,h,q⟩:=hbody cdv A outer s H vs Q E hr hsp
 exact⟨t,h.nox,q⟩
theorem Fun.binds {x qual:Str}{st:Stmt}{f:Addr}{fd:FuncData}{ps:List Str}(F:Fun K x qual st f fd)
 (h:∀(kV doc pm:Value) (an:Option Addr) (cdv ct:Value) (us:List Value),us.length=ps.length→bindArgs (PySem.W.fnOf x qual (xB st) (qE st) (zd st) .none kV doc pm an cdv ct) ⟨us,[]⟩=pure (ps.zip us)):Binds K fd ps []:=by
 obtain⟨oc,od,kV,doc,pm,an,cdv,ct,osl,rfl,lk,hcd⟩:=F.ex
 exact .all (h kV doc pm an cdv ct)
end
section
variable {X:Cx}
theorem pv (i:Nat){x:Str}{pos:Pos}(hN:X.N[i]?=some x:=by rfl)(hv:Vis X.env.scope x:=by first|exact Or.inl rfl|exact Or.inr (Or.inl rfl)|exact Or.inr (Or.inr rfl))(hd:(x==("__debug__":Str))=false:=by decide)
 (hcd:(x==("__classdict__":Str))=false:=by decide):PE X (.Name x pos) (zf7 i):=zdM hN hv hd hcd
end
theorem xE {A B:Prop}(h:B):if false=true then A else B:=by
 rw[if_neg Bool.false_ne_true]
 exact h
theorem jN {A B:Prop}(h:A):if true=true then A else B:=by
 rw[if_pos rfl]
 exact h
theorem jB {c A B:Prop}[Decidable c](h1:c→A)(h2:¬c→B):if c then A else B:=by
 by_cases h:c
 ·rw[if_pos h]
  exact h1 h
 ·rw[if_neg h]
  exact h2 h
theorem zb1 {c A B:Prop}[Decidable c](hc:c)(h:B):if(!decide c)=true then A else B:=by
 rw[decide_eq_true hc]
 exact xE h
def Same (H H':Hp):Prop:=∀b o,H b=some o→H' b=some o
theorem Same.refl (H:Hp):Same H H:=fun _ _ h=>h
theorem Same.trans {H H1 H2:Hp}(a:Same H H1)(b:Same H1 H2):Same H H2:=fun c o h=>b c o (a c o h)
theorem Same.free {H H':Hp}(e:Same H H'){l:Addr}(h:H' l=Option.none):H l=Option.none:=by
 cases q:H l with
 |none=>rfl
 |some o=>
  rw[e l o q] at h
  cases h
theorem Same.seq {K:PySem.W.Frag}{H H':Hp}{a:Addr}{xs:List V}(e:Same H H')(h:SqL K H a xs):SqL K H' a xs:=by
 rcases h with(h|⟨o,h⟩)|h
 ·exact .inl (.inl (e _ _ h))
 ·exact .inl (.inr ⟨o,e _ _ h⟩)
 ·exact .inr h
end
section
abbrev TB:=St→Hp→(St→Hp→Prop)→Prop
def PTs (X:Cx)(ifs:List Expr)(t:TT):Prop:=
 ∀(pins:List (Addr×Obj)) (s:Shared) (σ:St) (H:Hp) (Q:Bool→Hp→Prop),Inv X pins σ H s→t σ H Q→
  wpAny (model X.prog X.w) X.A (forIn ifs true fun c r=>if r=true then do let ok ←isTrue c X.env (eval c X.env);pure (ForInStep.yield ok) else pure (ForInStep.yield r)) (TP X pins σ Q) X.xe s
def zf6:TT:=fun _ H Q=>Q true H
theorem zO {X:Cx}:PTs X [] zf6:=fun _ _ _ H _ I h=>wpAny_tests_nil ⟨H,I,h⟩
theorem zbN {X:Cx}{c:Expr}{t:TT}(h:PT X c t):PTs X [c] t:=fun pins s σ H Q I hq=>wpAny_tests_one (h pins s σ H Q I hq)
def qM (elt:Expr)(gens:List Comprehension)(scope:Scope)(pos:Pos)(d:Nat)(it acc:Value)(env:Env):Sem Fin:=
 match gens[d+1]? with
 |some g'=>do
  let x ←eval g'.iter env
  standAt g'.iter.pos
  let x ←if g'.is_async != 0 then foldedIterable g'.iter x else foldedSetIterable g'.iter env x
  let _ ←runOwn (.compStart (.ListComp elt gens scope pos) (d+1) (←holding [x] (if g'.is_async != 0 then asyncIter x else pyIter x)) acc env) env
  again (.compLoop (.ListComp elt gens scope pos) d it acc env)
 |none=>do
  (do let _ ←call (.builtin "list.append") [acc,←eval elt env])
  again (.compLoop (.ListComp elt gens scope pos) d it acc env)
theorem xa (elt:Expr)(gens:List Comprehension)(scope:Scope)(pos:Pos)(d:Nat)(it acc:Value)(env:Env)(target iter:Expr)(ifs:List Expr)(hg:gens[d]?=some ⟨target,iter,ifs,0⟩) :
 compTurn (.ListComp elt gens scope pos) d it acc env=(do
  standAt iter.pos
  match ←pyNext it with
  |none=>pure (.done .next)
  |some v=>do
   letOwnedTupleGo target it v
   assign target env v
   let ok ←forIn ifs true fun c r=>if r=true then do let ok ←isTrue c env (eval c env);pure (ForInStep.yield ok) else pure (ForInStep.yield r)
   if ok then qM elt gens scope pos d it acc env
   else again (.compLoop (.ListComp elt gens scope pos) d it acc env)):=by
 unfold compTurn qM
 simp only[hg]
 rfl
def vO (J:It)(g:TG)(t:TT)(b:TB)(N:St→Hp→Prop)(σ:St)(H:Hp):Prop:=
 ∃W:Nat→Nat→St→Hp→Prop,(∃m,W 0 m σ H)∧∀i m σ H,W i m σ H→
  (J.stop i H∧N σ H)∨(J.go i H∧∃N':St→Hp→Prop,(∀σ' H',N' σ' H'→∃m',m'<m∧W (i+1) m' σ' H')∧∀x H',J.yld i H x H'→g x σ H' fun σ2 H2=>t σ2 H2 fun k H3=>if k=true then b σ2 H3 N' else N' σ2 H3)
def PAf (X:Cx)(elt:Expr)(gens:List Comprehension)(scope:Scope)(pos:Pos)(d:Nat)(it acc:Value)(b:TB):Prop:=
 ∀(pins:List (Addr×Obj)) (s:Shared) (σ:St) (H:Hp) (N:St→Hp→Prop),Inv X pins σ H s→b σ H N→
  wpAny (model X.prog X.w) X.A (qM elt gens scope pos d it acc X.env) (fun fin s'=>fin=.again (.compLoop (.ListComp elt gens scope pos) d it acc X.env)∧∃σ' H',Inv X pins σ' H' s'∧N σ' H') X.xe s
section
variable {X:Cx}{elt tg iter:Expr}{ifs:List Expr}{gens:List Comprehension}{scope:Scope}{pos:Pos}{d:Nat}{acc:Value}
theorem bG {g:TG}{t:TT}{b:TB}{N:St→Hp→Prop}{J:It}{fp:List Addr}{it:Addr}{tn:Nat→Heap→Prop}{pins:List (Addr×Obj)}{s:Shared}{σ:St}{H:Hp}
 (hx:X.xe=fun _ _=>False) (hc:X.calm=true) (hg:gens[d]?=some ⟨tg,iter,ifs,0⟩) (hgt:PG X tg g) (ht:PTs X ifs t) (hb:PAf X elt gens scope pos d (.ref it) acc b)
 (T:Turn X.prog X.w X.K tg J fp it tn) (I:Inv X pins σ H s) (st:tn 0 s.heap) (f2:∀b∈fp,qa X pins H b) (w:vO J g t b N σ H) :
 codeAny (model X.prog X.w) X.A (.compLoop (.ListComp elt gens scope pos) d (.ref it) acc X.env) (fun r s'=>match r with | .ok _=>∃σ' H',Inv X pins σ' H' s'∧N σ' H' | .error _=>False) s:=by
 obtain⟨W,⟨m0,w0⟩,turn⟩:=w
 have stat:∀{H':Hp},(∀b∈fp,H' b=none)→∀b∈fp,qa X pins H' b:=fun hn b hb=>⟨hn b hb,(f2 b hb).2⟩
 refine codeAny_loop rfl (fun n s'=>∃i σ' H',Inv X pins σ' H' s'∧tn i s'.heap∧(∀b∈fp,H' b=none)∧W i n σ' H') ?_ m0 ⟨0,σ,H,I,st,fun b hb=>(f2 b hb).1,w0⟩
 rintro n s3 ⟨i,σ3,H3,I3,st3,fr3,w3⟩
 show wpAny _ X.A ((compTurn (.ListComp elt gens scope pos) d (.ref it) acc X.env).onRaise (fun x=>do noteFrame x X.env;theTreesLotGoes x)) _ _ s3
 refine wpAny_noted ?_
 rw[xa _ _ _ _ _ _ _ _ _ _ _ hg]
 have weak:∀{α:Type}{m:Sem α}{Q Q':α→Shared→Prop}{E':Value→Shared→Prop}{s:Shared},wpAny (model X.prog X.w) X.A m Q X.xe s→(∀a s,Q a s→Q' a s)→wpAny (model X.prog X.w) X.A m Q' E' s:=fun h hQ=>by
  rw[hx] at h
  exact wpAny_mono h hQ fun _ _ z=>False.elim z
 refine wpAny_bind (wpAny_standAt (wpAny_bind ?_))
 rcases turn i n σ3 H3 w3 with⟨stop,qn⟩|⟨go,N',hN,step⟩
 ·refine weak (T.done X rfl rfl rfl hc i pins s3 σ3 H3 X.xe I3 (stat fr3) st3 stop) fun r s4 ⟨hr,I4⟩=>?_
  subst hr
  exact wpAny_pure ⟨σ3,H3,I4,qn⟩
 ·refine weak (T.item X rfl rfl rfl hc i pins s3 σ3 H3 X.xe I3 (stat fr3) st3 go) fun r s4 ⟨u,hr,h4⟩=>?_
  subst hr
  refine wpAny_bind (weak h4 fun _ s5 ⟨x,H5,I5,r5,y5,st5,fr5⟩=>?_)
  have I5':=I5.pinned (stat fr5) (T.obj _ _ st5)
  refine wpAny_bind (weak (hgt _ s5 σ3 H5 x u _ I5' r5 (step x H5 y5)) fun _ s6 ⟨σ6,H6,I6,q6⟩=>?_)
  refine wpAny_bind (weak (ht _ s6 σ6 H6 _ I6 q6) fun k s7 ⟨H7,I7,q7⟩=>?_)
  have again:∀{s8:Shared}{σ8:St}{H8:Hp},Inv X (pins++wb fp s5.heap) σ8 H8 s8→N' σ8 H8→∃m,m<n∧∃i σ' H',Inv X pins σ' H' s8∧tn i s8.heap∧(∀b∈fp,H' b=none)∧W i m σ' H':=fun {s8 σ8 H8} I8 n8=>by
   obtain⟨m',hm,w8⟩:=hN σ8 H8 n8
   refine⟨m',hm,i+1,σ8,H8,I8.unpinned,T.keep _ _ _ st5 fun b hb o e=>(I8.pin (b,o) (List.mem_append_right _ (List.mem_append_right _ (zR hb e)))).1,fun b hb=>?_,w8⟩
   obtain⟨o,e,d⟩:=T.obj _ _ st5 b hb
   exact(I8.pin (b,o) (List.mem_append_right _ (List.mem_append_right _ (zR hb e)))).2.1
  cases k with
  |false=>exact wpAny_pure ⟨rfl,again I7 q7⟩
  |true=>
   refine weak (hb _ s7 σ6 H7 N' I7 q7) fun fin s8 ⟨e,σ8,H8,I8,q8⟩=>?_
   subst e
   exact⟨rfl,again I8 q8⟩
theorem vy {R:Result→Shared→Prop}{it:Value}{s:Shared}{env:Env}{P:Program}{w:World}{A:Around}(hg:gens[d]?=some ⟨tg,iter,ifs,0⟩)
 (h0:codeAny (model P w) A (.compLoop (.ListComp elt gens scope pos) d it acc env) R s)
 (h:wpAny (model P w) A (pyIter it) (fun it' s'=>codeAny (model P w) A (.compLoop (.ListComp elt gens scope pos) d it' acc env) R s') (notedBy (model P w) A env fun x s'=>R (.error x) s') s) :
 codeAny (model P w) A (.compStart (.ListComp elt gens scope pos) d it acc env) R s:=by
 refine codeAny_of_tree ?_
 show wpAny _ _ ((compStart (.ListComp elt gens scope pos) d it acc env).onRaise (fun x=>do noteFrame x env;standAt theWindowsPlace)) _ _ s
 refine wpAny_notedAt ?_
 unfold compStart
 show wpAny _ _ (if(gens[d]?).elim false (·.is_async != 0)=true then _ else _) _ _ s
 rw[hg]
 show wpAny _ _ (ask >>= _) _ _ s
 refine wpAny_bind (wpAny_askSetting (wpAny_ite ?_))
 split
 ·first
   |exact wpAny_bind (wpAny_pure (wpAny_pure (And.intro rfl h0)))
   |exact wpAny_pure (And.intro rfl h0)
 ·refine wpAny_bind (wpAny_rule ?_)
  dsimp only[clausesOf]
  rw[hg]
  exact wpAny_bind (wpAny_standAt (wpAny_bind (wpAny_mono h (fun it' s' h'=>wpAny_pure (And.intro rfl h')) fun _ _ x=>x)))
def zeC (acc:Addr)(te:TE):TB:=fun σ H N=>te σ H fun x H1=>∃xs,H1 acc=some (.lst xs)∧xs.length<sizeLine∧N σ (upd H1 acc (.lst (xs++[x])))
theorem zI {it:Value}{a:Addr}{te:TE}(h1:gens[d+1]?=none)(he:PE X elt te):PAf X elt gens scope pos d it (.ref a) (zeC a te):=by
 intro pins s σ H N I h
 unfold qM
 rw[h1]
 refine wpAny_bind (wpAny_bind (thn (he pins s σ H _ I h) fun v s1 ⟨x,H1,I1,r1,xs,e,z,q⟩=>?_))
 refine wpAny_bind (thn (yr pins s1 σ H1 (.ref a) [x] (.ref a) [v] (fun _ H2=>N σ H2) I1 rfl (.cons r1 .nil) ⟨a,xs,x,rfl,rfl,e,z,q⟩) fun _ s2 ⟨_,H2,I2,_,q2⟩=>?_)
 exact wpAny_pure (wpAny_pure ⟨rfl,σ,H2,I2,q2⟩)
def ziv (wi:TI)(g:TG)(t:TT)(b:TB):TB:=fun σ H N=>wi σ H fun J H1=>vO J g t b N σ H1
theorem ze9 {it:Value}{tg' iter':Expr}{ifs':List Expr}{wi:TI}{g:TG}{t:TT}{b:TB}(hx:X.xe=fun _ _=>False)(hc:X.calm=true)(h1:gens[d+1]?=some ⟨tg',iter',ifs',0⟩)
 (hi:PI X tg' iter' wi) (hgt:PG X tg' g) (ht:PTs X ifs' t) (hb:∀it',PAf X elt gens scope pos (d+1) (.ref it') acc b)
 (hs:∀x,foldedSetIterable iter' X.env x=pure x:=by intro _;rfl):PAf X elt gens scope pos d it acc (ziv wi g t b):=by
 intro pins s σ H N I h
 unfold qM
 rw[h1]
 refine wpAny_bind (thn (hi pins s σ H _ I h) fun v s1 hi1=>?_)
 refine wpAny_bind (wpAny_standAt ?_)
 show wpAny _ _ (foldedSetIterable iter' X.env v >>= _) _ _ s1
 refine wpAny_bind (wpAny_of_eq (hs v) (wpAny_bind (wpAny_holding (thn hi1 fun itv s2 h2=>?_))))
 obtain⟨it',fp,tn,J,H2,e,I2,T,st2,f2,w2⟩:=h2
 subst e
 have lp:=bG (elt:=elt) (scope:=scope) (pos:=pos) hx hc h1 hgt ht (hb it') T I2 st2 f2 w2
 refine wpAny_bind (wpAny_runOwn (codeAny_mono (R:=fun r s'=>match r with | .ok _=>∃σ' H',Inv X pins σ' H' s'∧N σ' H' | .error _=>False) (vy h1 lp (T.self _ _ _ _ _ st2 lp)) fun r s3 q3=>?_))
 cases r with
 |ok f=>
  exact wpAny_pure ⟨rfl,q3⟩
 |error e=>exact False.elim q3
end
end
section
theorem gU {env:Env}{scope:Scope}(h:∀x∈scope.names,x.2=.free→∃c,env.cells.lookup x.1=some c) :
 ∃cl,closureFor scope env=pure cl∧(∀x c,cl.lookup x=some c→env.cells.lookup x=some c)∧∀x∈scope.names,x.2=.free→∃c,cl.lookup x.1=some c:=by
 have key:∀(names:List (Str×NameKind)) (acc:List (Str×Addr)),(∀x∈names,x.2=.free→∃c,env.cells.lookup x.1=some c)→(∀x c,acc.lookup x=some c→env.cells.lookup x=some c)→
  ∃cl:List (Str×Addr),(forIn names acc fun(x:Str×NameKind) (r:List (Str×Addr))=>if(x.2==NameKind.free)=true then do let a ←cellOf env x.1;pure (ForInStep.yield ((x.1,a)::r)) else pure (ForInStep.yield r):Sem (List (Str×Addr)))=pure cl∧
   (∀x c,cl.lookup x=some c→env.cells.lookup x=some c)∧(∀x c,acc.lookup x=some c→∃c',cl.lookup x=some c')∧∀x∈names,x.2=.free→∃c,cl.lookup x.1=some c:=by
  intro names
  induction names with
  |nil=>intro acc _ ha;exact⟨acc,rfl,ha,fun x c e=>⟨c,e⟩,fun _ z=>nomatch z⟩
  |cons x r ih=>
   intro acc hn ha
   by_cases hk:(x.2==NameKind.free)=true
   ·obtain⟨c,hc⟩:=hn x List.mem_cons_self (by simpa using hk)
    have ha':∀y d,List.lookup y ((x.1,c)::acc)=some d→env.cells.lookup y=some d:=by
     intro y d e
     rw[List.lookup_cons] at e
     cases hy:y==x.1 with
     |true=>rw[hy] at e;cases e;rw[beq_iff_eq.mp hy];exact hc
     |false=>rw[hy] at e;exact ha y d e
    obtain⟨cl,e1,e2,e3,e4⟩:=ih ((x.1,c)::acc) (fun y hy=>hn y (List.mem_cons_of_mem _ hy)) ha'
    refine⟨cl,?_,e2,fun y d e=>?_,fun y hy hf=>?_⟩
    ·rw[List.forIn_cons]
     simp only[hk,if_true,cellOf,hc]
     exact e1
    ·cases hy:y==x.1 with
     |true=>exact e3 y c (by rw[List.lookup_cons,hy])
     |false=>exact e3 y d (by rw[List.lookup_cons,hy];exact e)
    ·rcases List.mem_cons.mp hy with rfl|hy
     ·exact e3 y.1 c (by rw[List.lookup_cons,beq_self_eq_true])
     ·exact e4 y hy hf
   ·obtain⟨cl,e1,e2,e3,e4⟩:=ih acc (fun y hy=>hn y (List.mem_cons_of_mem _ hy)) ha
    refine⟨cl,?_,e2,e3,fun y hy hf=>?_⟩
    ·rw[List.forIn_cons]
     simp only[hk,if_false]
     exact e1
    ·rcases List.mem_cons.mp hy with rfl|hy
     ·exact absurd (by simpa using hf) hk
     ·exact e4 y hy hf
 obtain⟨cl,e1,e2,_,e4⟩:=key scope.names [] h (fun _ _ z=>by simp at z)
 refine⟨cl,?_,e2,e4⟩
 unfold closureFor
 show(forIn scope.names [] _ >>= fun cs=>pure cs)=_
 exact(congrArg (fun m=>m >>= fun cs=>(pure cs:Sem _)) e1)
theorem wI {env:Env}:∀{names:List (Str×NameKind)}{x:Str},names.lookup x=some .free→
 ∃k,(k=NameKind.cell∨k=NameKind.free)∧(names.map fun(n,k)=>if(k==NameKind.free&&env.scope.kind==.function&&env.kindOf n==some .cell) then(n,NameKind.cell) else(n,k)).lookup x=some k
 |[],_,h=>by simp at h
 |(n,k)::r,x,h=>by
  have ih:=@wI env r x
  show ∃k',_∧List.lookup x ((if(k==NameKind.free&&env.scope.kind==.function&&env.kindOf n==some .cell)=true then(n,NameKind.cell) else(n,k))::_)=_
  cases hx:x==n with
  |true=>
   simp only[List.lookup_cons,hx] at h
   cases h
   by_cases hc:(NameKind.free==NameKind.free&&env.scope.kind==.function&&env.kindOf n==some .cell)=true
   ·rw[if_pos hc];exact⟨.cell,.inl rfl,by simp only[List.lookup_cons,hx]⟩
   ·rw[if_neg hc];exact⟨.free,.inr rfl,by simp only[List.lookup_cons,hx]⟩
  |false=>
   simp only[List.lookup_cons,hx] at h
   obtain⟨k',hk',e⟩:=ih h
   refine⟨k',hk',?_⟩
   by_cases hc:(k==NameKind.free&&env.scope.kind==.function&&env.kindOf n==some .cell)=true
   ·rw[if_pos hc];simp only[List.lookup_cons,hx];exact e
   ·rw[if_neg hc];simp only[List.lookup_cons,hx];exact e
theorem gC {env:Env}:∀{names:List (Str×NameKind)}{x:Str}{k':NameKind},(k'=.cell∨k'=.free)→(∀y∈names,y.2≠.cell)→
 (names.map fun(n,k)=>if(k==NameKind.free&&env.scope.kind==.function&&env.kindOf n==some .cell) then(n,NameKind.cell) else(n,k)).lookup x=some k'→(x,NameKind.free)∈names
 |[],_,_,_,_,h=>by simp at h
 |(n,k)::r,x,k',hk',hc,h=>by
  have h2:List.lookup x ((if(k==NameKind.free&&env.scope.kind==.function&&env.kindOf n==some .cell)=true then(n,NameKind.cell) else(n,k))::(r.map fun(n,k)=>if(k==NameKind.free&&env.scope.kind==.function&&env.kindOf n==some .cell) then(n,NameKind.cell) else(n,k)))=some k':=h
  have ih:=@gC env r x k' hk' (fun y hy=>hc y (List.mem_cons_of_mem _ hy))
  cases hx:x==n with
  |true=>
   have e:x=n:=beq_iff_eq.mp hx
   subst e
   by_cases hk:k=.free
   ·subst hk;exact List.mem_cons_self
   ·have hkf:(k==NameKind.free)=false:=by simpa using hk
    simp only[hkf,Bool.false_and,Bool.false_eq_true,if_false,List.lookup_cons,beq_self_eq_true,Option.some.injEq] at h2
    subst h2
    rcases hk' with z|z
    ·exact absurd z (hc (x,k) List.mem_cons_self)
    ·exact absurd z hk
  |false=>
   refine List.mem_cons_of_mem _ (ih ?_)
   by_cases hcc:(k==NameKind.free&&env.scope.kind==.function&&env.kindOf n==some .cell)=true
   ·rw[if_pos hcc] at h2;simp only[List.lookup_cons,hx] at h2;exact h2
   ·rw[if_neg hcc] at h2;simp only[List.lookup_cons,hx] at h2;exact h2
end
section
def vP (cap:List (Option Nat))(σ:St):St:=cap.map fun o=>match o with|some i=>(σ[i]?).join|none=>none
def zU (No:List Str)(sc:Scope)(N:List Str)(cap:List (Option Nat))(scope:Scope):Bool:=
 scope.kind==.function&&cap.length==N.length
  && scope.names.all (fun y=>y.2 != .cell&&(y.2 != .local||scope.names.lookup y.1==some .local)&&(y.2 != .free||(sc.names.lookup y.1==some .cell||sc.names.lookup y.1==some .free)))
  && (cap.zip N).all (fun p=>match p.1 with|none=>true|some i=>No[i]?==some p.2&&scope.names.lookup p.2==some .free)
structure yW (No:List Str)(sc:Scope)(N:List Str)(cap:List (Option Nat))(scope:Scope):Prop where
 kind:scope.kind=.function
 len:cap.length=N.length
 cell:∀y∈scope.names,y.2≠.cell
 names:∀y∈scope.names,y.2=.local→scope.names.lookup y.1=some .local
 free:∀y∈scope.names,y.2=.free→sc.names.lookup y.1=some .cell∨sc.names.lookup y.1=some .free
 cap:∀(j i:Nat) (x:Str),cap[j]?=some (some i)→N[j]?=some x→No[i]?=some x∧scope.names.lookup x=some .free
theorem yy {No:List Str}{sc:Scope}{N:List Str}{cap:List (Option Nat)}{scope:Scope}(h:zU No sc N cap scope=true):yW No sc N cap scope:=by
 unfold zU at h
 simp only[Bool.and_eq_true,List.all_eq_true,beq_iff_eq,bne_iff_ne,Bool.or_eq_true] at h
 obtain⟨⟨⟨h1,h2⟩,h3⟩,h4⟩:=h
 refine⟨h1,h2,fun y hy=>(h3 y hy).1.1,fun y hy hl=>?_,fun y hy hf=>?_,fun j i x e1 e2=>?_⟩
 ·rcases(h3 y hy).1.2 with z|z
  ·exact absurd hl z
  ·exact z
 ·rcases(h3 y hy).2 with z|z
  ·exact absurd hf z
  ·exact z
 ·have hm:(some i,x)∈cap.zip N:=by
   refine List.mem_of_getElem? (i:=j) ?_
   rw[List.getElem?_zip_eq_some]
   exact⟨e1,e2⟩
  have:=h4 _ hm
  simpa using this
abbrev Cx.blk (X:Cx)(N:List Str)(scope:Scope)(cl:List (Str×Addr))(C:Addr)(s3:Shared)(H3:Hp)(fp:List Addr):Cx:=
 { X with N:=N,s₀:=s3,H₀:=H3,env:=compEnvC scope cl C X.env,outer:=X.stack,ex:=fp,fn:=fun _=>false,pn:=[],xe:=fun _ _=>False }
section
variable {X:Cx}{N:List Str}{cap:List (Option Nat)}{scope:Scope}{cl:List (Str×Addr)}{C:Addr}{s3:Shared}{H3:Hp}{fp:List Addr}{pins:List (Addr×Obj)}{σ:St}
theorem zbc {h4:Heap}{m:Str→Option Value}{tk:Nat}(I:Inv X pins σ H3 s3)(ok:yW X.N X.env.scope N cap scope)
 (cl1:∀x c,cl.lookup x=some c→X.env.cells.lookup x=some c) (cl2:∀x∈scope.names,x.2=.free→∃c,cl.lookup x.1=some c)
 (hf:∀b∈fp,qa X pins H3 b∧b<s3.heap.objs.size) (hC:s3.heap.objs.size=C) (hn:h4.Ns C m) (hk:∀b o,s3.heap.get? b=some o→h4.get? b=some o) :
 Inv (X.blk N scope cl C s3 H3 fp) [] (vP cap σ) H3 { s3 with heap:=h4,toks:=tk }:=by
 have ltC:∀b o,s3.heap.get? b=some o→b≠C:=fun b o e=>Nat.ne_of_lt (hC▸Heap.lt_size e)
 have cellK:∀x c,cl.lookup x=some c→∃v,h4.IsCell c v:=fun x c e=>by
  obtain⟨v,o,ho,hd⟩:=I.cell x c (cl1 x c e)
  exact⟨v,o,hk c o ho,hd⟩
 have fr:H3 C=none:=I.hok.fresh (Nat.le_of_eq hC)
 refine⟨⟨I.ok.mod,?_,I.ok.glob,I.ok.blt,?_,fun x y c e1 e2=>I.ok.inj x y c (cl1 _ _ e1) (cl1 _ _ e2),fun x hx=>?_,(fun x c z=>nomatch z),I.ok.hd,I.ok.frames,.inl rfl,fun b hb=>⟨?_,fun x c e=>?_⟩,
  I.bs,Nat.le_trans I.ok.bsz I.sz,fun b o e hb=>?_,fun b hb hb2=>?_,I.stack,I.stkFree⟩,rfl,I.bare,Un.kept hk,⟨m,hn,fun j x v e1 e2 e3=>?_⟩,cellK,fr,fun x c e=>I.freeC x c (cl1 x c e),fun p hp=>?_,I.hok.kept hk,?_⟩
 ·exact ok.kind
 ·exact Nat.le_of_eq hC
 ·have hx':∃k',(k'=NameKind.cell∨k'=NameKind.free)∧(relabel scope X.env).names.lookup x=some k':=by
   rcases hx with z|z
   ·exact⟨_,.inl rfl,z⟩
   ·exact⟨_,.inr rfl,z⟩
  obtain⟨k',hk',z⟩:=hx'
  exact cl2 (x,.free) (gC hk' ok.cell z) rfl
 ·exact Nat.ne_of_lt (hC▸(hf b hb).2)
 ·exact(hf b hb).1.2.2.2.2.1 x c (cl1 x c e)
 ·rcases(hf b hb).1.2.2.2.1 with z|z
  ·exact I.ok.noex b o e z
  ·exact absurd (Nat.lt_of_lt_of_le (Heap.lt_size e) (Nat.le_trans I.ok.bsz z)) (Nat.lt_irrefl _)
 ·rcases List.mem_cons.mp (I.stkSub b hb2) with z|z
  ·exact(hf b hb).1.2.1 z
  ·exact(hf b hb).1.2.2.1 z
 ·unfold vP at e2
  rw[List.getElem?_map] at e2
  cases hj:cap[j]? with
  |none=>rw[hj] at e2;cases e2
  |some o=>
   rw[hj] at e2
   cases o with
   |none=>cases e2
   |some i=>
    obtain⟨h1,h2⟩:=ok.cap j i x hj e1
    have e2':(σ[i]?).join=some v:=Option.some.inj e2
    have e4:σ[i]?=some (some v):=by
     cases hs:σ[i]? with
     |none=>rw[hs] at e2';cases e2'
     |some o=>rw[hs] at e2';exact congrArg some e2'
    have hmem:(x,NameKind.free)∈scope.names:=by
     have key:∀(l:List (Str×NameKind)),l.lookup x=some NameKind.free→(x,NameKind.free)∈l:=by
      intro l
      induction l with
      |nil=>intro z;simp at z
      |cons y r ih=>
       intro z
       rw[List.lookup_cons] at z
       cases hxy:x==y.1 with
       |true=>rw[hxy] at z;have:=beq_iff_eq.mp hxy;have z2:y.2=.free:=Option.some.inj z;rw[this,←z2];exact List.mem_cons_self
       |false=>rw[hxy] at z;exact List.mem_cons_of_mem _ (ih z)
     exact key _ h2
    have hout:=ok.free _ hmem rfl
    obtain⟨m',hn',hl'⟩:=I.loc
    obtain⟨u,r,l⟩:=hl' i x v h1 e4 (.inr hout)
    refine⟨u,r,.inr ⟨?_,?_⟩⟩
    ·obtain⟨k',hk',e⟩:=wI (env:=X.env) h2
     rcases hk' with rfl|rfl
     ·exact .inl e
     ·exact .inr e
    ·rcases l with⟨kl,_⟩|⟨_,c,hc,o,ho,hd⟩
     ·rcases hout with z|z
      ·rw[show X.env.kindOf x=some .cell from z] at kl;cases kl
      ·rw[show X.env.kindOf x=some .free from z] at kl;cases kl
     ·obtain⟨c',hc'⟩:=cl2 _ hmem rfl
      have e:=cl1 _ _ hc'
      have e':X.env.cells.lookup x=some c':=e
      rw[hc] at e'
      cases e'
      exact⟨c,hc',o,hk c o ho,hd⟩
 ·exact nomatch hp
 ·unfold vP;rw[List.length_map];exact ok.len
theorem kP {σ':St}{H':Hp}{s':Shared}{h':Heap}(I:Inv X pins σ H3 s3)(I':Inv (X.blk N scope cl C s3 H3 fp) [] σ' H' s')(hf:∀b∈fp,qa X pins H3 b)(hs:Heap.SameBut C s'.heap h')(hC:s3.heap.objs.size=C) :
 Inv X pins σ H' { s' with heap:=h' }:=by
 have hb:=I'.base
 have neC:∀b o,s3.heap.get? b=some o→b≠C:=fun b o e=>Nat.ne_of_lt (hC▸Heap.lt_size e)
 have ext:∀b o,b≠C→s'.heap.get? b=some o→h'.get? b=some o:=fun b o n e=>hs.extBut b o n e
 refine I.call' (ch:=fp) I'.os ⟨fun b o e n h1 h2=>ext b o (neC b o e) (hb.keep b o e n h1 h2),fun b o e n h1 h2=>?_,fun b o e n h2=>hb.free b o e n h2,fun b o e h2=>?_,hb.tups,hb.frzs,hb.tbls⟩ (fun b u e=>?_) I'.bare fun b hb=>?_
 ·obtain⟨sl,q⟩:=hb.slot b o e n h1 h2
  exact⟨sl,ext b _ (neC b o e) q⟩
 ·obtain⟨o',q⟩:=hb.there b o e h2
  exact⟨o',ext b o' (neC b o e) q⟩
 ·have fr:H' C=none:=I'.free
  refine(I'.hok b u e).stay (fun c v hc q=>ext c v ?_ q) (fun _ q=>q) fun _ _ q=>q
  rintro rfl
  rcases hc with z|z
  ·rw[←z,fr] at e;cases e
  ·rw[fr] at z;cases z
 ·obtain⟨f0,f1,f2,f3,f4,f5⟩:=hf b hb
  exact⟨f3,f1,f4,f5⟩
end
end
section
def pG (wi:TI)(cap:List (Option Nat))(g:TG)(t:TT)(b:Addr→TB):TE:=fun σ H Q=>
 wi σ H fun J H1=>∀acc,H1 acc=none→vO J g t (b acc) (fun _ H2=>Q (.ref acc) H2) (vP cap σ) (upd H1 acc (.lst []))
section
variable {X:Cx}{elt tg iter:Expr}{ifs:List Expr}{rest:List Comprehension}{scope:Scope}{pos:Pos}{N:List Str}{cap:List (Option Nat)}{wi:TI}{g:TG}{t:TT}{b:Addr→TB}
theorem gR {pins:List (Addr×Obj)}{σ:St}{Q:VK}{s2:Shared}{itv:Value}{cl:List (Str×Addr)}{RR:Value→Addr→Result→Shared→Prop}(hc:X.calm=true)(ok:yW X.N X.env.scope N cap scope)
 (cl1:∀x c,cl.lookup x=some c→X.env.cells.lookup x=some c) (cl2:∀x∈scope.names,x.2=.free→∃c,cl.lookup x.1=some c)
 (hb:∀cl C s3 H3 fp,PG (X.blk N scope cl C s3 H3 fp) tg g∧PTs (X.blk N scope cl C s3 H3 fp) ifs t∧∀it acc,PAf (X.blk N scope cl C s3 H3 fp) elt (⟨tg,iter,ifs,0⟩::rest) scope pos 0 (.ref it) (.ref acc) (b acc))
 (h:PIE X pins σ tg (fun J H1=>∀acc,H1 acc=none→vO J g t (b acc) (fun _ H2=>Q (.ref acc) H2) (vP cap σ) (upd H1 acc (.lst []))) itv s2)
 (hR:∀(acc C:Addr) (H':Hp) (s':Shared) (m:Str→Option Value),s'.heap.Ns C m→H' C=none→X.s₀.heap.objs.size≤C→C≠X.env.locals→(∀x c,X.env.cells.lookup x=some c→c≠C)→(∀p∈X.pn++pins,p.1≠C)→(∀h',Heap.SameBut C s'.heap h'→Inv X pins σ H' { s' with heap:=h' })→Q (.ref acc) H'→RR (.ref acc) C (.ok .next) s') :
 wpAny (model X.prog X.w) X.A (newList []) (fun acc s₃=>wpAny (model X.prog X.w) X.A (newFunctionEnv scope X.env.globals cl [] X.env.qual none .none (some X.env)) (fun cenv s₄=>
  codeAny (model X.prog X.w) X.A (.compStart (.ListComp elt (⟨tg,iter,ifs,0⟩::rest) scope pos) 0 itv acc { cenv with scope:=relabel scope X.env }) (fun r s'=>match r with | .ok _=>RR acc cenv.locals (.ok .next) s' | .error _=>False) s₄) X.xe s₃) X.xe s2:=by
 obtain⟨it,fp,tn,J,H2,e,I2,T,st2,f2,q⟩:=h
 subst e
 refine wpAny_newObj_type (wpAny_newFunctionEnv ok.cell (by intro y hy;simp at hy) (fun h₁ hns₁ hsb₁=>?_) ok.kind)
 dsimp only at hns₁ hsb₁ ⊢
 have I3:=I2.lnew (its:=[]) (ys:=[]) (t':=s2.toks) .nil (Nat.zero_le _)
 have fr:H2 s2.heap.objs.size=none:=I2.hok.fresh (Nat.le_refl _)
 have hlt:∀b∈fp,b<s2.heap.objs.size:=fun b hb=>by
  obtain⟨o,e,_⟩:=T.obj 0 _ st2 b hb
  exact Heap.lt_size e
 generalize hS3:({ s2 with heap:=s2.heap.push { cls:=.type "list",dict:=none,data:=.seq ([]:List Value).toArray } }:Shared)=s3 at *
 have hS:s3.heap=s2.heap.push { cls:=.type "list",dict:=none,data:=.seq ([]:List Value).toArray }:=by rw[←hS3]
 have hsz:s3.heap.objs.size=s2.heap.objs.size+1:=by rw[hS,Heap.size_push]
 have I3':Inv X pins σ (upd H2 s2.heap.objs.size (.lst [])) s3:=I3
 have hf3:∀b∈fp,qa X pins (upd H2 s2.heap.objs.size (.lst [])) b∧b<s3.heap.objs.size:=fun b hb=>by
  have hl:=hlt b hb
  refine⟨⟨?_,(f2 b hb).2⟩,?_⟩
  ·rw[zf (Nat.ne_of_lt hl)];exact(f2 b hb).1
  ·rw[hsz];exact Nat.lt_succ_of_lt hl
 rw[←hS] at hns₁ hsb₁
 have kp:∀b o,s3.heap.get? b=some o→h₁.get? b=some o:=fun b o e=>hsb₁.extBut b o (Nat.ne_of_lt (Heap.lt_size e)) (Heap.get?_push_of_some _ e)
 have kp2:∀b o,s2.heap.get? b=some o→h₁.get? b=some o:=fun b o e=>kp b o (by rw[hS];exact Heap.get?_push_of_some _ e)
 rw[←hS]
 obtain⟨hb1,hb2,hb3⟩:=hb cl s3.heap.objs.size s3 (upd H2 s2.heap.objs.size (.lst [])) fp
 have e4:∀tk,({ s2 with heap:=h₁,toks:=tk }:Shared)={ s3 with heap:=h₁,toks:=tk }:=fun tk=>by rw[←hS3]
 show codeAny _ _ (.compStart _ 0 (.ref it) (.ref s2.heap.objs.size) (compEnvC scope cl s3.heap.objs.size X.env)) _ _
 have I4:Inv (X.blk N scope cl s3.heap.objs.size s3 (upd H2 s2.heap.objs.size (.lst [])) fp) [] (vP cap σ) (upd H2 s2.heap.objs.size (.lst [])) { s3 with heap:=h₁,toks:=s3.toks }:=
  zbc (tk:=s3.toks) I3' ok cl1 cl2 hf3 rfl hns₁ kp
 have f4:∀b∈fp,qa (X.blk N scope cl s3.heap.objs.size s3 (upd H2 s2.heap.objs.size (.lst [])) fp) [] (upd H2 s2.heap.objs.size (.lst [])) b:=fun b hb=>by
  obtain⟨⟨g0,g1,g2,g3,g4,g5⟩,g6⟩:=hf3 b hb
  refine⟨g0,Nat.ne_of_lt g6,fun z=>?_,.inl hb,fun x c e=>g4 x c (cl1 x c e),fun p hp=>nomatch hp⟩
  rcases List.mem_cons.mp (I3'.stkSub b z) with z|z
  ·exact g1 z
  ·exact g2 z
 have st4:tn 0 h₁:=T.keep 0 _ _ st2 fun b hb o e=>kp2 b o e
 have lp:∀s4:Shared,s4={ s3 with heap:=h₁,toks:=s3.toks }→codeAny (model X.prog X.w) X.A (.compLoop (.ListComp elt (⟨tg,iter,ifs,0⟩::rest) scope pos) 0 (.ref it) (.ref s2.heap.objs.size) (compEnvC scope cl s3.heap.objs.size X.env)) (fun r s'=>match r with | .ok _=>RR (.ref s2.heap.objs.size) s3.heap.objs.size (.ok .next) s' | .error _=>False) s4:=by
  intro s4 e4
  rw[e4]
  have lp:=bG (X:=X.blk N scope cl s3.heap.objs.size s3 (upd H2 s2.heap.objs.size (.lst [])) fp) (d:=0) (N:=fun _ H2'=>Q (.ref s2.heap.objs.size) H2') rfl hc rfl hb1 hb2 (hb3 it s2.heap.objs.size) T I4 st4 f4 (q _ fr)
  refine codeAny_mono lp fun r s' hr=>?_
  cases r with
  |error e=>exact hr
  |ok f=>
   obtain⟨σ',H',I',q'⟩:=hr
   obtain⟨m,hn,_⟩:=I'.loc
   exact hR _ _ H' s' m hn I'.free I3'.sz (Nat.ne_of_gt I3'.lt) (fun x c e=>by
    obtain⟨v,z⟩:=I3'.cell x c e
    exact Nat.ne_of_lt z.lt) (fun p hp=>Nat.ne_of_lt (Heap.lt_size (I3'.pin p hp).1)) (fun h' hs=>kP I3' I' (fun b hb=>(hf3 b hb).1) hs rfl) q'
 refine vy rfl (lp _ ?_) (T.self _ 0 _ _ _ st4 (lp _ ?_))
 ·rw[←hS3];rfl
 ·rw[←hS3];rfl
theorem yc {pins:List (Addr×Obj)}{σ:St}{H:Hp}{s:Shared}(I:Inv X pins σ H s)(ok:yW X.N X.env.scope N cap scope) :
 ∃cl,closureFor scope X.env=pure cl∧(∀x c,cl.lookup x=some c→X.env.cells.lookup x=some c)∧∀x∈scope.names,x.2=.free→∃c,cl.lookup x.1=some c:=
 gU fun x hx hf=>I.ok.has x.1 (ok.free x hx hf)
theorem qc (hc:X.calm=true)(hok:zU X.N X.env.scope N cap scope=true)(hi:PI X tg iter wi)
 (hb:∀cl C s3 H3 fp,PG (X.blk N scope cl C s3 H3 fp) tg g∧PTs (X.blk N scope cl C s3 H3 fp) ifs t∧∀it acc,PAf (X.blk N scope cl C s3 H3 fp) elt (⟨tg,iter,ifs,0⟩::rest) scope pos 0 (.ref it) (.ref acc) (b acc))
 (hs:∀x,foldedSetIterable iter X.env x=pure x:=by intro _;rfl):PE X (.ListComp elt (⟨tg,iter,ifs,0⟩::rest) scope pos) (pG wi cap g t b):=by
 intro pins s σ H Q I h
 have ok:=yy hok
 obtain⟨cl,e0,cl1,cl2⟩:=yc I ok
 rw[eval_ListComp]
 refine wpAny_comprehension_free (use:=none) rfl hs e0 ok.kind ok.names (thn (hi pins s σ H _ I h) fun v s1 h1=>thn h1 fun itv s2 h2=>?_)
 refine thn (gR (RR:=fun acc C=>compPost (model X.prog X.w) X.A X.xe none (EP X pins σ Q) acc C) hc ok cl1 cl2 hb h2 ?_) fun acc s3 h3=>thn h3 fun cenv s4 h4=>codeAny_mono h4 fun r s' hr=>?_
 ·intro acc C H' s' m hn _ _ _ _ _ hI q
  exact⟨m,hn,fun h' hs'=>⟨.ref acc,H',hI h' hs',rfl,q⟩⟩
 ·cases r with
  |ok f=>exact hr
  |error e=>exact False.elim hr
theorem gk {i:Nat}{y:Str}{py spos:Pos}(hc:X.calm=true)(hok:zU X.N X.env.scope N cap scope=true)(hN:X.N.Nodup)(hy:X.N[i]?=some y)(hx:X.env.scope.names.lookup y=some .local)(hi:PI X tg iter wi)
 (hb:∀cl C s3 H3 fp,PG (X.blk N scope cl C s3 H3 fp) tg g∧PTs (X.blk N scope cl C s3 H3 fp) ifs t∧∀it acc,PAf (X.blk N scope cl C s3 H3 fp) elt (⟨tg,iter,ifs,0⟩::rest) scope pos 0 (.ref it) (.ref acc) (b acc))
 (hs:∀x,foldedSetIterable iter X.env x=pure x:=by intro _;rfl)
 (hsw:swapsWith (.ListComp elt (⟨tg,iter,ifs,0⟩::rest) scope pos) (some (.Name y py)) spos.line X.env=pure true:=by rfl) :
 PS X (.Assign [.Name y py] (.ListComp elt (⟨tg,iter,ifs,0⟩::rest) scope pos) spos) (zeP (pG wi cap g t b) (zq i)):=by
 intro pins s σ H D I h
 have ok:=yy hok
 obtain⟨cl,e0,cl1,cl2⟩:=yc I ok
 rw[exec_Assign_Name_used _ _ _ _ hsw]
 refine wpAny_bind (wpAny_standAt (wpAny_bind ?_))
 show wpAny _ X.A (do let _ ←comprehension (.ListComp elt (⟨tg,iter,ifs,0⟩::rest) scope pos) scope X.env _ (newList []) false (eval iter X.env) (some (assign (.Name y py) X.env))) _ _ s
 refine wpAny_bind (wpAny_mono (wpAny_comprehension_free (use:=some (assign (.Name y py) X.env)) (Q:=fun _ s'=>SP X pins D .next s') rfl hs e0 ok.kind ok.names
  (thn (hi pins s σ H _ I h) fun v s1 h1=>thn h1 fun itv s2 h2=>?_)) (fun _ s' hq=>wpAny_pure (wpAny_pure hq)) fun _ _ e=>e)
 refine thn (gR (RR:=fun acc C=>compPost (model X.prog X.w) X.A X.xe (some (assign (.Name y py) X.env)) (fun _ s'=>SP X pins D .next s') acc C) (Q:=fun v H2=>D.nx (σ.set i (some v)) H2) hc ok cl1 cl2 hb h2 ?_) fun acc s3 h3=>thn h3 fun cenv s4 h4=>codeAny_mono h4 fun r s' hr=>?_
 ·intro acc C H' s' m hn hfr hC1 hC2 hC3 hC4 hI q
  have I':Inv X pins σ H' s':=hI s'.heap (.refl ..)
  show wpAny _ _ (assign (.Name y py) X.env (.ref acc)) _ _ s'
  refine wpAny_assign_Name (xq I' hN hy (.inl hx) (v:=.ref acc) rfl (fun s2 I2 ⟨a,hsa,ha⟩=>?_) (.inr hx))
  have haC:C≠a:=by
   rcases ha with z|z
   ·rw[z];exact hC2
   ·exact Ne.symm (hC3 y a z)
  refine⟨m,hn.sameBut hsa haC,fun h' hs'=>?_⟩
  exact⟨_,H',I2.turned (it:=C) (t':=s2.toks) (fun b o hb e=>hs'.extBut b o hb e) hfr hC2 (.inr hC1) hC3 hC4,q⟩
 ·cases r with
  |ok f=>exact hr
  |error e=>exact False.elim hr
end
end
section
def ZI (b:Bool)(h:Heap)(it l:Addr)(k:Nat):Prop:=∃o,h.get? it=some o∧o.cls=.type (if b then "tuple_iterator" else "list_iterator")∧o.data=.fields #[.ref l,.int k 0]
def ZS (b:Bool)(h:Heap)(l:Addr)(xs:Array Value):Prop:=∃o,h.get? l=some o∧o.cls=.type (if b then "tuple" else "list")∧∃n,o.data=.seq xs n
theorem ZI.at {b:Bool}{h h':Heap}{it l:Addr}{k:Nat}(z:ZI b h it l k)(e:∀o,h.get? it=some o→h'.get? it=some o):ZI b h' it l k:=let ⟨o,ho,r⟩:=z;⟨o,e o ho,r⟩
theorem ZS.at {b:Bool}{h h':Heap}{l:Addr}{xs:Array Value}(z:ZS b h l xs)(e:∀o,h.get? l=some o→h'.get? l=some o):ZS b h' l xs:=let ⟨o,ho,r⟩:=z;⟨o,e o ho,r⟩
section
variable {P:Program}{w:World}{A:Around}{E:Value→Shared→Prop}{s:Shared}
end
end
section
section
variable {P:Program}{w:World}{A:Around}{E:Value→Shared→Prop}{s:Shared}
structure ZSt (b1 b2:Bool)(z TI TO i1 i2 l1 l2:Addr)(f0:Value)(k:Nat)(h:Heap):Prop where
 zz:IsZip h z TI TO f0
 ti:IsPair h TI (.ref i1) (.ref i2)
 to:∃a b,IsPair h TO a b
 h1:ZI b1 h i1 l1 k
 h2:ZI b2 h i2 l2 k
end
end
section
section
variable {P:Program}{w:World}{A:Around}{E:Value→Shared→Prop}{s:Shared}
end
section
variable {X:Cx}{pins:List (Addr×Obj)}{σ:St}{H:Hp}{s:Shared}{h':Heap}{fp:List Addr}
end
def SqB (K:PySem.W.Frag)(b:Bool)(H:Hp)(a:Addr)(xs:List V):Prop:=if b then SqT K H a xs else SqL K H a xs
theorem Inv.seqB {X:Cx}{pins:List (Addr×Obj)}{σ:St}{H:Hp}{s:Shared}{b:Bool}{a:Addr}{xs:List V}(I:Inv X pins σ H s)(h:SqB X.K b H a xs):∃its:List Value,Vals xs its∧ZS b s.heap a its.toArray∧xs.length≤sizeLine:=by
 cases b with
 |true=>
  obtain⟨its,r,p,z⟩:=I.tuple h
  exact⟨its,r,p,z⟩
 |false=>
  obtain⟨its,r,p,z⟩:=I.list h
  exact⟨its,r,p.isList,z⟩
section
variable {X:Cx}
end
end
section
section
variable {X:Cx}
theorem zhq {x:Str}{n:String}{pos:Pos}(hg:Gl X x)(hm:X.mg x=none)(hv:bootBuiltins x=some (.type n))(hn:x≠"__name__":=by decide)(hd:(x==("__debug__":Str))=false:=by decide):PE X (.Name x pos) (tC (.ty n)):=
 ze6 hg hm hv rfl hn hd
end
end
section
section
variable {X:Cx}
end
end
section
section
variable {X:Cx}{K:PySem.W.Frag}
theorem ixL (h:X.K=K):IxR X (zhi K):=h▸zfr
theorem ixT (h:X.K=K):IxR X (zgk K):=h▸zgF
def zif (K:PySem.W.Frag):List V→Hp→VK→Prop:=fun xs H Q=>∃p ys,xs=[.ref p]∧(SqL K H p ys∨SqT K H p ys)∧Q (.int ys.length) H
theorem gY (h:X.K=K):CallR X (.builtin "len") (zif K):=h▸dS
def zgi (K:PySem.W.Frag):List V→Hp→VK→Prop:=fun xs H Q=>∃p ys,xs=[.ref p]∧((SqL K H p ys∧∀l,H l=none→Q (.ref l) (upd H l (.tup ys)))∨(SqT K H p ys∧Q (.ref p) H))
theorem zeA (h:X.K=K):CallR X (.type "tuple") (zgi K):=h▸fG
def zhh (K:PySem.W.Frag):List V→Hp→VK→Prop:=fun xs H Q=>∃p ys,xs=[.ref p]∧(SqL K H p ys∨SqT K H p ys)∧∀l,H l=none→Q (.ref l) (upd H l (.lst ys))
theorem zhO (h:X.K=K):CallR X (.type "list") (zhh K):=h▸dR
theorem piL {tg l:Expr}{tl:TE}(h:X.K=K)(hl:PE X l tl):PI X tg l (zfZ K tl):=h▸ze1 hl
theorem piT {tg l:Expr}{tl:TE}(h:X.K=K)(hl:PE X l tl):PI X tg l (zhy K tl):=h▸zgo hl
theorem pgT {es:List Expr}{k:Nat}{t:TGs}{n:Nat}{pos:Pos}(h:X.K=K)(hc:X.calm=true)(hh:PGs X es t)(hn:(assignEach es X.env).length=n:=by rfl)(hst:(assignEach es X.env).findIdx? (·.1)=none:=by rfl) :
 PG X (.Tuple es k pos) (zhE K n t):=h▸zgp hc hh hn hst
end
end
end L2
namespace HT
open PySem PyProof.Rows
section
variable {prog:Program}{w:World}{A:Around}{E:Value→Shared→Prop}{s:Shared}
theorem getItem_tuple_all {t sl:Addr}{items:Array Value}{vl vu:Value}{lo hi:Option Int}{Q:Value→Shared→Prop}(ht:IsTup s.heap t items)(hs:s.heap.IsSliceOf sl vl vu .none)(pl:IsPart vl lo)(pu:IsPart vu hi)
 (hw:sIx items.size 0 lo=0∧sIx items.size items.size hi=items.size) (h:Q (.ref t) s):wpAny (model prog w) A (getItem (.ref t) (.ref sl)) Q E s:=by
 obtain⟨os,hos,hcs,hds⟩:=id hs
 have hTs:s.TypeIs (.ref sl) "slice":=⟨os,hos,hcs⟩
 unfold getItem
 try with_reducible refine wpAny_holding ?_
 first|refine wpAny_bind (wpAny_pure ?_)|skip
 refine wpAny_bind (wpAny_sequenceKey ht.typeIs (by decide) ?_)
 refine wpAny_bind (wpAny_callSpecial?_slot (name:=Str.ofString "__getitem__") ht.typeIs PyProof.Rows.slot_tuple_getitem (wpAny_call_entry PyProof.Rows.slot_tuple_getitem ht.typeIs entry_tuple_getitem ?_ (args_tuple_getitem _ _)))
 show wpAny _ _ (Builtin.Tuple.tupleItemsOf (.ref t) >>= _) _ _ s
 refine wpAny_bind (tupleItemsOf_ ht (wpAny_bind (wpAny_typeOf hTs ?_)))
 rw[if_pos (by decide)]
 refine wpAny_bind (j7 hs pl pu ?_)
 have yes:(((sIx items.size 0 lo:Nat):Int)==0&&(1:Int)==1&&(sIx items.size items.size hi-sIx items.size 0 lo)==items.size)=true:=by
  rw[hw.1,hw.2];simp
 show wpAny _ _ (if(((sIx items.size 0 lo:Nat):Int)==0&&(1:Int)==1&&(sIx items.size items.size hi-sIx items.size 0 lo)==items.size)=true then _ else _) _ _ s
 rw[if_pos yes]
 unfold Builtin.Tuple.tupleIsExact
 refine wpAny_bind (wpAny_bind (wpAny_typeOf ht.typeIs (wpAny_pure ?_)))
 exact wpAny_bind (wpAny_rule (wpAny_pure ⟨_,rfl,wpAny_pure h⟩))
end
end HT
namespace L2
open PySem PySem.Spec PyProof.Rows
section
section
variable {X:Cx}{K:PySem.W.Frag}
theorem Same.tup {K:PySem.W.Frag}{H H':Hp}{a:Addr}{xs:List V}(e:Same H H')(h:SqT K H a xs):SqT K H' a xs:=by
 rcases h with(h|⟨o,h⟩)|h
 ·exact .inl (.inl (e _ _ h))
 ·exact .inl (.inr ⟨o,e _ _ h⟩)
 ·exact .inr h
theorem Same.lay {H:Hp}{p:Addr}{o:HO}(h:H p=none):Same H (upd H p o):=fun b o' e=>by rw[zf (zc e h)];exact e
end
end
section
def mmL (b:Bool):String:=if b then "min.loop" else "max.loop"
def mmI (b:Bool):String:=if b then "min" else "max"
def zfl (b:Bool):CmpOp:=if b then .Lt else .Gt
def pick (bt:Nat→Nat→Bool):Nat→Option Nat
 |0=>none
 |i+1=>match pick bt i with
  |none=>some i
  |some j=>if bt i j then some i else some j
theorem bg {bt:Nat→Nat→Bool}:∀{n:Nat},pick bt n=none→n=0
 |0,_=>rfl
 |n+1,h=>by
  unfold pick at h
  cases e:pick bt n with
  |none=>rw[e] at h;cases h
  |some k=>rw[e] at h;simp only at h;split at h<;>cases h
theorem zX {P:Program}{w:World}{id:String}{args:Args}{b:Builtin}(hb:entryFor table id=some b):(model P w).den (.builtin id args)=b args:=by
 show(match entryFor table id with|some b=>b args|none=>unsupported ((withoutEnding? id "#data").getD id))=_
 rw[hb]
abbrev zA (its:Array Value)(c:Nat):Obj:={ cls:=.type "list",data:=.seq its c }
def Kept (xs:List V)(KV:Nat→V→Prop)(jb:Option Nat)(its:Array Value):Prop:=match jb with
 |none=>its = #[]
 |some j=>∃x y u v,xs[j]?=some x∧RelV x u∧KV j y∧RelV y v∧its = #[u,v]
section
variable {X:Cx}{pins:List (Addr×Obj)}{σ:St}{H0:Hp}{a I S:Addr}{xs:List V}{KV:Nat→V→Prop}{bt:Nat→Nat→Bool}{key:Value}{kw:List (Str×Value)}{R:Result→Shared→Prop}
theorem zfk (b:Bool)(hc:X.calm=true)(hSI:S≠I)
 (hl:SqL X.K H0 a xs)
 (hkey:(key=.none∧∀i x,xs[i]?=some x→KV i x)∨∃q,key=.ref q∧∀i x u (pins:List (Addr×Obj)) s H,xs[i]?=some x→Inv X pins σ H s→RelV x u→Same H0 H→
   wpAny (model X.prog X.w) X.A.in1 (call (.ref q) [u]) (fun v s'=>∃y H',Inv X pins σ H' s'∧RelV y v∧KV i y∧Same H H') (fun _ _=>False) s)
 (hcmp:∀i j y z v u s H (pins:List (Addr×Obj)) (Q:Value→Shared→Prop) (E:Value→Shared→Prop),KV i y→KV j z→Inv X pins σ H s→Same H0 H→RelV y v→RelV z u→Q (.bool (bt i j)) s→wpAny (model X.prog X.w) X.A.in1 (richCompare (zfl b) v u) Q E s)
 (hR:∀s' H',Inv X pins σ H' s'→Same H0 H'→match pick bt xs.length with
   |none=>∀d dn r,kw=(dn,d)::r→R (.ok (.ret d)) s'
   |some j=>∀x u,xs[j]?=some x→RelV x u→R (.ok (.ret u)) s')
 (hkw:kw=[]→0<xs.length){s:Shared}(I0:Inv X pins σ H0 s) (it0:s.heap.IsListIter I a 0) (fI:qa X pins H0 I) (fS:qa X pins H0 S){c0:Nat}(s0:s.heap.get? S=some (zA #[] c0)) :
 codeAny (model X.prog X.w) X.A (.builtin (mmL b) ⟨[.ref I,key,.ref S],kw⟩) R s:=by
 have hn1:(toString "min"++toString ".loop":String)="min.loop":=by decide
 have hn2:(toString "max"++toString ".loop":String)="max.loop":=by decide
 have stI:∀{H':Hp},H' I=none→qa X pins H' I:=fun h=>⟨h,fI.2⟩
 have stS:∀{H':Hp},H' S=none→qa X pins H' S:=fun h=>⟨h,fS.2⟩
 have quiet:(Code.builtin (mmL b) ⟨[.ref I,key,.ref S],kw⟩).quiet=true:=by
  cases b
  ·exact plainId_quiet PySem.F.plain_max_loop _
  ·exact plainId_quiet PySem.F.plain_min_loop _
 refine codeAny_loop quiet (fun n s'=>∃i H its c,Inv X pins σ H s'∧Same H0 H∧s'.heap.IsListIter I a i∧H I=none∧H S=none∧s'.heap.get? S=some (zA its c)∧Kept xs KV (pick bt i) its∧i≤xs.length∧n=xs.length-i) ?_ xs.length
  ⟨0,H0,#[],c0,I0,Same.refl _,it0,fI.1,fS.1,s0,rfl,Nat.zero_le _,rfl⟩
 rintro n s1 ⟨i,H,its,c,I1,S1,hit,hI,hS,hob,hk,hi,rfl⟩
 obtain⟨vs,rv,pl,hz⟩:=I1.list (S1.seq hl)
 have hlen:=rv.length
 have isz:its.size≤2:=by
  cases e:pick bt i with
  |none=>rw[e] at hk;rw[show its = #[] from hk];decide
  |some j=>rw[e] at hk;obtain⟨_,_,_,_,_,_,_,_,rfl⟩:=hk;exact Nat.le_refl 2
 have hh:X.A.in1.handled=none:=I1.ok.hd hc
 cases hv:vs[i]? with
 |none=>
  have hil:i=xs.length:=by
   have:=List.getElem?_eq_none_iff.mp hv
   omega
  cases b
  all_goals
   first|rw[show mmL false="max.loop" from rfl]|rw[show mmL true="min.loop" from rfl]
   first|rw[Around.under_plainId PySem.F.plain_max_loop _]|rw[Around.under_plainId PySem.F.plain_min_loop _]
   first|rw[zX PySem.F.entry_max_loop]|rw[zX PySem.F.entry_min_loop]
   show wpAny _ X.A.in1 (seqItems? (.ref S) >>= _) _ _ _
   refine wpAny_bind (wpAny_seqItems hob rfl ?_)
   show wpAny _ X.A.in1 (tryCatch (pyNext (.ref I)) _ >>= _) _ _ _
   refine wpAny_bind (wpAny_tryCatch (wpAny_pyNext_list_end hh hit pl.isList (by simpa using hv) fun h' k'=>?_))
   have I2:Inv X pins σ H { s1 with heap:=h' }:=I1.turned (t':=s1.toks) (fun b' o hb e=>k' b' o hb e) hI fI.2.1 fI.2.2.2.1 fI.2.2.2.2.1 fI.2.2.2.2.2
   have hob2:=k' S _ hSI hob
   cases e:pick bt i with
   |none=>
    rw[e] at hk
    have hk:its = #[]:=hk
    subst hk
    cases kw with
    |nil=>exact absurd (bg e) (by have:=hkw rfl;omega)
    |cons p r=>
     refine wpAny_bind (wpAny_rule (wpAny_pure ?_))
     have:=hR _ H I2 S1
     rw[←hil,e] at this
     exact this p.2 p.1 r rfl
   |some j=>
    rw[e] at hk
    obtain⟨x,y,u,v,g1,g2,g3,g4,rfl⟩:=hk
    show wpAny _ X.A.in1 (updateSeq S (fun _=>#[]) >>= _) _ _ _
    refine wpAny_bind (wpAny_updateSeq hob2 rfl (wpAny_bind (wpAny_letGo (wpAny_pure ?_))))
    have:=hR _ H (I2.turned (it:=S) (h':=h'.update S (Obj.mapSeq fun _=>#[])) (t':=s1.toks) (fun b' o hb e=>(Heap.get?_update_other _ _ (Ne.symm hb)).trans e) hS fS.2.1 fS.2.2.2.1 fS.2.2.2.2.1 fS.2.2.2.2.2) S1
    rw[←hil,e] at this
    exact this x u g1 g2
 |some u=>
  have hil:i<vs.length:=(List.getElem?_eq_some_iff.mp hv).1
  obtain⟨x,hx⟩:∃x,xs[i]?=some x:=⟨xs[i]'(by omega),List.getElem?_eq_getElem (by omega)⟩
  obtain⟨u',hu',ru⟩:=rv.get hx
  rw[hv] at hu'
  cases hu'
  have tail:∀(s2:Shared) (H2:Hp) (y:V) (v:Value) (o2:Obj),Inv X (pins++[(I,o2),(S,zA its c)]) σ H2 s2→Same H H2→RelV y v→KV i y→(o2.cls=.type "list_iterator"∧o2.data=.fields #[.ref a,.int ((i+1:Nat):Int) 0])→
   ∀jn,jn=pick bt (i+1)→∀its',Kept xs KV jn its'→its'.size=2→∀T:Nat,∃m,m<xs.length-i∧∃i' H' its c,Inv X pins σ H' { s2 with heap:=s2.heap.update S (Obj.mapSeq fun _=>its'),toks:=T }∧Same H0 H'∧(s2.heap.update S (Obj.mapSeq fun _=>its')).IsListIter I a i'∧H' I=none∧H' S=none∧(s2.heap.update S (Obj.mapSeq fun _=>its')).get? S=some (zA its c)∧Kept xs KV (pick bt i') its∧i'≤xs.length∧m=xs.length-i':=by
   intro s2 H2 y v o2 J S2 ry hy ho jn hj its' hk' hz' T
   have q1:=J.pin (I,o2) (by simp)
   have q2:=J.pin (S,zA its c) (by simp)
   have J1:Inv X pins σ H2 s2:=J.unpinned
   have g:=get?_update_seq (c:="list") q2.1 (fun _=>its')
   refine⟨xs.length-(i+1),by omega,i+1,H2,its',_,J1.turned (it:=S) (fun b' o hb e=>(Heap.get?_update_other _ _ (Ne.symm hb)).trans e) q2.2.1 fS.2.1 fS.2.2.2.1 fS.2.2.2.2.1 fS.2.2.2.2.2,S1.trans S2,⟨o2,(Heap.get?_update_other _ _ hSI).trans q1.1,ho.1,ho.2⟩,q1.2.1,q2.2.1,g,by rw[←hj];exact hk',by omega,rfl⟩
  have tail0:∀(s2:Shared) (H2:Hp) (o2:Obj),Inv X (pins++[(I,o2),(S,zA its c)]) σ H2 s2→Same H H2→(o2.cls=.type "list_iterator"∧o2.data=.fields #[.ref a,.int ((i+1:Nat):Int) 0])→Kept xs KV (pick bt (i+1)) its→
   ∃m,m<xs.length-i∧∃i' H' its c,Inv X pins σ H' s2∧Same H0 H'∧s2.heap.IsListIter I a i'∧H' I=none∧H' S=none∧s2.heap.get? S=some (zA its c)∧Kept xs KV (pick bt i') its∧i'≤xs.length∧m=xs.length-i':=by
   intro s2 H2 o2 J S2 ho hk'
   have q1:=J.pin (I,o2) (by simp)
   have q2:=J.pin (S,zA its c) (by simp)
   exact⟨xs.length-(i+1),by omega,i+1,H2,its,c,J.unpinned,S1.trans S2,⟨o2,q1.1,ho.1,ho.2⟩,q1.2.1,q2.2.1,q2.1,hk',by omega,rfl⟩
  cases b
  all_goals
   first|rw[show mmL false="max.loop" from rfl]|rw[show mmL true="min.loop" from rfl]
   first|rw[Around.under_plainId PySem.F.plain_max_loop _]|rw[Around.under_plainId PySem.F.plain_min_loop _]
   first|rw[zX PySem.F.entry_max_loop]|rw[zX PySem.F.entry_min_loop]
   show wpAny _ X.A.in1 (seqItems? (.ref S) >>= _) _ _ _
   refine wpAny_bind (wpAny_seqItems hob rfl ?_)
   show wpAny _ X.A.in1 (tryCatch (pyNext (.ref I)) _ >>= _) _ _ _
   refine wpAny_bind (wpAny_tryCatch (wpAny_pyNext_list_item hit pl.isList (x:=u) (by simpa using hv) fun h' hit' k'=>?_))
   have I2:Inv X pins σ H { s1 with heap:=h' }:=I1.turned (t':=s1.toks) (fun b' o hb e=>(k'.2 b' hb).trans e) hI fI.2.1 fI.2.2.2.1 fI.2.2.2.2.1 fI.2.2.2.2.2
   obtain⟨o2,ho2,hoc,hod⟩:=hit'
   have hob2:h'.get? S=some (zA its c):=(k'.2 S hSI).trans hob
   have I3:Inv X (pins++[(I,o2),(S,zA its c)]) σ H { s1 with heap:=h' }:=I2.pins_of fun p hp=>by
    rcases List.mem_append.mp hp with z|z
    ·exact I2.pin p (List.mem_append_right _ z)
    ·simp only[List.mem_cons,List.not_mem_nil,or_false] at z
     rcases z with rfl|rfl
     ·exact⟨ho2,hI,fI.2.1,fI.2.2.1,fun v q=>by rw[hod] at q;cases q⟩
     ·exact⟨hob2,hS,fS.2.1,fS.2.2.1,fun v q=>by cases q⟩
   rcases hkey with⟨rfl,hk0⟩|⟨q,rfl,hq⟩
   ·refine wpAny_bind (wpAny_pure ?_)
    have hy:=hk0 i x hx
    cases e:pick bt i with
    |none=>
     rw[e] at hk
     have hk:its = #[]:=hk
     subst hk
     have ep:pick bt (i+1)=some i:=by unfold pick;rw[e]
     refine wpAny_bind (wpAny_updateSeq hob2 rfl ?_)
     first|rw[hn1]|rw[hn2]
     exact wpAny_pure ⟨rfl,tail _ H x u o2 I3 (Same.refl _) ru hy ⟨hoc,hod⟩ _ ep.symm _ ⟨x,x,u,u,hx,ru,hy,ru,rfl⟩ rfl _⟩
    |some j=>
     rw[e] at hk
     obtain⟨xo,yo,uo,vo,g1,g2,g3,g4,rfl⟩:=hk
     show wpAny _ X.A.in1 (tryCatch (holding [u,u] (richCompare _ u vo >>= _)) _ >>= _) _ _ _
     refine wpAny_bind (wpAny_tryCatch (wpAny_holding (wpAny_bind (hcmp i j x yo u vo _ H _ _ _ hy g3 I3 S1 ru g4 (wpAny_bind (wpAny_holding (wpAny_truthy_bool (wpAny_bind (wpAny_letGo (wpAny_pure ?_))))))))))
     cases eb:bt i j with
     |true=>
      have ep:pick bt (i+1)=some i:=by unfold pick;rw[e];simp only[eb,if_true]
      refine wpAny_bind (wpAny_updateSeq hob2 rfl (wpAny_bind (wpAny_letGo ?_)))
      first|rw[hn1]|rw[hn2]
      exact wpAny_pure ⟨rfl,tail _ H x u o2 I3 (Same.refl _) ru hy ⟨hoc,hod⟩ _ ep.symm _ ⟨x,x,u,u,hx,ru,hy,ru,rfl⟩ rfl _⟩
     |false=>
      have ep:pick bt (i+1)=some j:=by unfold pick;rw[e];simp only[eb,Bool.false_eq_true,if_false]
      refine wpAny_bind (wpAny_letGo ?_)
      first|rw[hn1]|rw[hn2]
      exact wpAny_pure ⟨rfl,tail0 _ H o2 I3 (Same.refl _) ⟨hoc,hod⟩ (by rw[ep];exact⟨xo,yo,uo,vo,g1,g2,g3,g4,rfl⟩)⟩
   ·show wpAny _ X.A.in1 (tryCatch (holding [u] (call (.ref q) [u])) _ >>= _) _ _ _
    refine wpAny_bind (wpAny_tryCatch (wpAny_holding (wpAny_mono (hq i x u _ _ H hx I3 ru S1) (fun v s2 ⟨y,H2,J,ry,hy,S2⟩=>?_) fun _ _ z=>z.elim)))
    have hob3:=(J.pin (S,zA its c) (by simp)).1
    cases e:pick bt i with
    |none=>
     rw[e] at hk
     have hk:its = #[]:=hk
     subst hk
     have ep:pick bt (i+1)=some i:=by unfold pick;rw[e]
     refine wpAny_bind (wpAny_updateSeq hob3 rfl ?_)
     first|rw[hn1]|rw[hn2]
     exact wpAny_pure ⟨rfl,tail _ H2 y v o2 J S2 ry hy ⟨hoc,hod⟩ _ ep.symm _ ⟨x,y,u,v,hx,ru,hy,ry,rfl⟩ rfl _⟩
    |some j=>
     rw[e] at hk
     obtain⟨xo,yo,uo,vo,g1,g2,g3,g4,rfl⟩:=hk
     show wpAny _ X.A.in1 (tryCatch (holding [u,v] (richCompare _ v vo >>= _)) _ >>= _) _ _ _
     refine wpAny_bind (wpAny_tryCatch (wpAny_holding (wpAny_bind (hcmp i j y yo v vo _ H2 _ _ _ hy g3 J (S1.trans S2) ry g4 (wpAny_bind (wpAny_holding (wpAny_truthy_bool (wpAny_bind (wpAny_letGo (wpAny_pure ?_))))))))))
     cases eb:bt i j with
     |true=>
      have ep:pick bt (i+1)=some i:=by unfold pick;rw[e];simp only[eb,if_true]
      refine wpAny_bind (wpAny_updateSeq hob3 rfl (wpAny_bind (wpAny_letGo ?_)))
      first|rw[hn1]|rw[hn2]
      exact wpAny_pure ⟨rfl,tail _ H2 y v o2 J S2 ry hy ⟨hoc,hod⟩ _ ep.symm _ ⟨x,y,u,v,hx,ru,hy,ry,rfl⟩ rfl _⟩
     |false=>
      have ep:pick bt (i+1)=some j:=by unfold pick;rw[e];simp only[eb,Bool.false_eq_true,if_false]
      refine wpAny_bind (wpAny_letGo ?_)
      first|rw[hn1]|rw[hn2]
      exact wpAny_pure ⟨rfl,tail0 _ H2 o2 J S2 ⟨hoc,hod⟩ (by rw[ep];exact⟨xo,yo,uo,vo,g1,g2,g3,g4,rfl⟩)⟩
end
end
section
theorem zcg (b:Bool)(a d:Value):argsOk (mmI b) ⟨[a],[(Str.ofString "default",d)]⟩:=by cases b<;>(unfold argsOk;kernel_rfl)
theorem ph (b:Bool)(a v d:Value):argsOk (mmI b) ⟨[a],[(Str.ofString "key",v),(Str.ofString "default",d)]⟩:=by cases b<;>(unfold argsOk;kernel_rfl)
theorem zch (b:Bool)(a:Value):argsOk (mmI b) ⟨[a],[]⟩:=by cases b<;>(unfold argsOk;kernel_rfl)
section
variable {X:Cx}{pins:List (Addr×Obj)}{σ:St}{H:Hp}{s:Shared}{a:Addr}{xs:List V}{KV:Nat→V→Prop}{bt:Nat→Nat→Bool}{Q:VK}
inductive zfF:List (Str×Value)→Value→List (Str×Value)→Prop
 |one:zfF [] .none []
 |dflt (d:Value):zfF [(Str.ofString "default",d)] .none [(Str.ofString "default",d)]
 |key (q:Addr) (d:Value):zfF [(Str.ofString "key",.ref q),(Str.ofString "default",d)] (.ref q) [(Str.ofString "default",d)]
theorem zbY (b:Bool){kws kw:List (Str×Value)}{key:Value}(hkw:zfF kws key kw)(hc:X.calm=true)(I0:Inv X pins σ H s)(hl:SqL X.K H a xs)
 (hkey:(key=.none∧∀i x,xs[i]?=some x→KV i x)∨∃q,key=.ref q∧∀i x u (pins:List (Addr×Obj)) s H',xs[i]?=some x→Inv X pins σ H' s→RelV x u→Same H H'→
   wpAny (model X.prog X.w) X.A.in1 (call (.ref q) [u]) (fun v s'=>∃y H2,Inv X pins σ H2 s'∧RelV y v∧KV i y∧Same H' H2) (fun _ _=>False) s)
 (hcmp:∀i j y z v u s H' (pins:List (Addr×Obj)) (Q:Value→Shared→Prop) (E:Value→Shared→Prop),KV i y→KV j z→Inv X pins σ H' s→Same H H'→RelV y v→RelV z u→Q (.bool (bt i j)) s→wpAny (model X.prog X.w) X.A.in1 (richCompare (zfl b) v u) Q E s)
 (hn:kw=[]→0<xs.length) (hd:∀dn d r,kw=(dn,d)::r→d=.none)
 (hQ:∀H',Same H H'→match pick bt xs.length with|none=>Q .non H'|some j=>∀x,xs[j]?=some x→Q x H') :
 wpAny (model X.prog X.w) X.A (call (.builtin (mmI b)) [.ref a] kws) (EP X pins σ Q) X.xe s:=by
 have hn1:(toString "min"++toString ".loop":String)="min.loop":=by decide
 have hn2:(toString "max"++toString ".loop":String)="max.loop":=by decide
 obtain⟨vs,rv,pl,hz⟩:=I0.list hl
 have hls:=pl.isList
 have e1:(s.heap.push { cls:=.type "list_iterator",data:=.fields #[.ref a,.int 0 0] }).objs.size=s.heap.objs.size+1:=Heap.size_push ..
 have I1:Inv X pins σ H { s with heap:=(s.heap.push { cls:=.type "list_iterator",data:=.fields #[.ref a,.int 0 0] }).push (zA #[] 0) }:=I0.kept (t':=s.toks) fun b' o e=>Heap.get?_push_of_some _ (Heap.get?_push_of_some _ e)
 have gI:((s.heap.push { cls:=.type "list_iterator",data:=.fields #[.ref a,.int 0 0] }).push (zA #[] 0)).IsListIter s.heap.objs.size a 0:=⟨_,Heap.get?_push_of_some _ (Heap.get?_push_size _ rfl),rfl,rfl⟩
 have gS:((s.heap.push { cls:=.type "list_iterator",data:=.fields #[.ref a,.int 0 0] }).push (zA #[] 0)).get? (s.heap.push { cls:=.type "list_iterator",data:=.fields #[.ref a,.int 0 0] }).objs.size=some (zA #[] 0):=Heap.get?_push_size _ rfl
 have fI:qa X pins H s.heap.objs.size:=I0.fpOk (Nat.le_refl _) (I0.hok.fresh (Nat.le_refl _))
 have fS:qa X pins H (s.heap.push { cls:=.type "list_iterator",data:=.fields #[.ref a,.int 0 0] }).objs.size:=by
  rw[e1];exact I0.fpOk (Nat.le_succ _) (I0.hok.fresh (Nat.le_succ _))
 have nSI:(s.heap.push { cls:=.type "list_iterator",data:=.fields #[.ref a,.int 0 0] }).objs.size≠s.heap.objs.size:=by rw[e1];exact Nat.ne_of_gt (Nat.lt_succ_self _)
 have lp:codeAny (model X.prog X.w) X.A (.builtin (mmL b) ⟨[.ref s.heap.objs.size,key,.ref (s.heap.push { cls:=.type "list_iterator",data:=.fields #[.ref a,.int 0 0] }).objs.size],kw⟩)
  (fun r s'=>match r with | .ok (.ret v)=>EP X pins σ Q v s' | .ok _=>False | .error e=>X.xe e s') { s with heap:=(s.heap.push { cls:=.type "list_iterator",data:=.fields #[.ref a,.int 0 0] }).push (zA #[] 0) }:=by
  refine zfk b hc nSI hl hkey hcmp ?_ hn I1 gI fI fS gS
  intro s' H' I' S'
  have q:=hQ H' S'
  cases e:pick bt xs.length with
  |none=>
   rw[e] at q
   intro d dn r hk
   have hd':=hd dn d r hk
   subst hd'
   exact⟨.non,H',I',rfl,q⟩
  |some j=>
   rw[e] at q
   intro x u hx ru
   exact⟨x,H',I',ru,q x hx⟩
 cases b with
 |false=>
  cases hkw with
  |one=>
   refine PyProof.Rows.kmk_tree PySem.F.kind_max PySem.F.plain_max PySem.F.entry_max (zch false _) ?_
   show wpAny _ X.A.in1 (Builtin.Builtins.bindParams "max" ["key","default"] 0 ⟨[],[]⟩ >>= _) _ _ s
   refine wpAny_bind (wpAny_of_eq (show Builtin.Builtins.bindParams "max" ["key","default"] 0 ⟨[],[]⟩=pure [none,none] from rfl) ?_)
   refine wpAny_bind (wpAny_pure ?_)
   refine wpAny_bind (wpAny_pyIter_list hls ?_)
   refine wpAny_bind (wpAny_newList ?_ (Nat.zero_le _))
   rw[hn2]
   exact wpAny_pure ⟨plainId_quiet PySem.F.plain_max_loop _,lp⟩
  |dflt d=>
   refine PyProof.Rows.kmk_tree PySem.F.kind_max PySem.F.plain_max PySem.F.entry_max (zcg false _ _) ?_
   show wpAny _ X.A.in1 (Builtin.Builtins.bindParams "max" ["key","default"] 0 ⟨[],[(Str.ofString "default",d)]⟩ >>= _) _ _ s
   refine wpAny_bind (wpAny_of_eq (show Builtin.Builtins.bindParams "max" ["key","default"] 0 ⟨[],[(Str.ofString "default",d)]⟩=pure [none,some d] from rfl) ?_)
   refine wpAny_bind (wpAny_pure ?_)
   refine wpAny_bind (wpAny_pyIter_list hls ?_)
   refine wpAny_bind (wpAny_newList ?_ (Nat.zero_le _))
   rw[hn2]
   exact wpAny_pure ⟨plainId_quiet PySem.F.plain_max_loop _,lp⟩
  |key q d=>
   refine PyProof.Rows.kmk_tree PySem.F.kind_max PySem.F.plain_max PySem.F.entry_max (ph false _ _ _) ?_
   show wpAny _ X.A.in1 (Builtin.Builtins.bindParams "max" ["key","default"] 0 ⟨[],[(Str.ofString "key",.ref q),(Str.ofString "default",d)]⟩ >>= _) _ _ s
   refine wpAny_bind (wpAny_of_eq (show Builtin.Builtins.bindParams "max" ["key","default"] 0 ⟨[],[(Str.ofString "key",.ref q),(Str.ofString "default",d)]⟩=pure [some (.ref q),some d] from rfl) ?_)
   refine wpAny_bind (wpAny_pure ?_)
   refine wpAny_bind (wpAny_pyIter_list hls ?_)
   refine wpAny_bind (wpAny_newList ?_ (Nat.zero_le _))
   rw[hn2]
   exact wpAny_pure ⟨plainId_quiet PySem.F.plain_max_loop _,lp⟩
 |true=>
  cases hkw with
  |one=>
   refine PyProof.Rows.kmk_tree PySem.F.kind_min PySem.F.plain_min PySem.F.entry_min (zch true _) ?_
   show wpAny _ X.A.in1 (Builtin.Builtins.bindParams "min" ["key","default"] 0 ⟨[],[]⟩ >>= _) _ _ s
   refine wpAny_bind (wpAny_of_eq (show Builtin.Builtins.bindParams "min" ["key","default"] 0 ⟨[],[]⟩=pure [none,none] from rfl) ?_)
   refine wpAny_bind (wpAny_pure ?_)
   refine wpAny_bind (wpAny_pyIter_list hls ?_)
   refine wpAny_bind (wpAny_newList ?_ (Nat.zero_le _))
   rw[hn1]
   exact wpAny_pure ⟨plainId_quiet PySem.F.plain_min_loop _,lp⟩
  |dflt d=>
   refine PyProof.Rows.kmk_tree PySem.F.kind_min PySem.F.plain_min PySem.F.entry_min (zcg true _ _) ?_
   show wpAny _ X.A.in1 (Builtin.Builtins.bindParams "min" ["key","default"] 0 ⟨[],[(Str.ofString "default",d)]⟩ >>= _) _ _ s
   refine wpAny_bind (wpAny_of_eq (show Builtin.Builtins.bindParams "min" ["key","default"] 0 ⟨[],[(Str.ofString "default",d)]⟩=pure [none,some d] from rfl) ?_)
   refine wpAny_bind (wpAny_pure ?_)
   refine wpAny_bind (wpAny_pyIter_list hls ?_)
   refine wpAny_bind (wpAny_newList ?_ (Nat.zero_le _))
   rw[hn1]
   exact wpAny_pure ⟨plainId_quiet PySem.F.plain_min_loop _,lp⟩
  |key q d=>
   refine PyProof.Rows.kmk_tree PySem.F.kind_min PySem.F.plain_min PySem.F.entry_min (ph true _ _ _) ?_
   show wpAny _ X.A.in1 (Builtin.Builtins.bindParams "min" ["key","default"] 0 ⟨[],[(Str.ofString "key",.ref q),(Str.ofString "default",d)]⟩ >>= _) _ _ s
   refine wpAny_bind (wpAny_of_eq (show Builtin.Builtins.bindParams "min" ["key","default"] 0 ⟨[],[(Str.ofString "key",.ref q),(Str.ofString "default",d)]⟩=pure [some (.ref q),some d] from rfl) ?_)
   refine wpAny_bind (wpAny_pure ?_)
   refine wpAny_bind (wpAny_pyIter_list hls ?_)
   refine wpAny_bind (wpAny_newList ?_ (Nat.zero_le _))
   rw[hn1]
   exact wpAny_pure ⟨plainId_quiet PySem.F.plain_min_loop _,lp⟩
end
end
section
section
variable {X:Cx}{K:PySem.W.Frag}{x:Str}{p pos:Pos}{e:Expr}{es:List Expr}{kws:List Keyword}{t tk:TA}{id:String}{ks:List Str}
def zh6 (r:List V→List V→Hp→VK→Prop)(t tk:TA):TE:=fun σ H Q=>t σ H fun vs H1=>tk σ H1 fun zs H2=>r vs zs H2 Q
def zbr (X:Cx)(id:String)(ks:List Str)(r:List V→List V→Hp→VK→Prop):Prop:=
 ∀(pins:List (Addr×Obj)) (s:Shared) (σ:St) (H:Hp) (vs zs:List V) (us ws:List Value) (Q:VK),Inv X pins σ H s→Vals vs us→Vals zs ws→r vs zs H Q→
  wpAny (model X.prog X.w) X.A (call (.builtin id) us (ks.zip ws)) (EP X pins σ Q) X.xe s
theorem yn {r:List V→List V→Hp→VK→Prop}(hc:zbr X id ks r)(hg:Gl X x)(hm:X.mg x=none)(hv:bootBuiltins x=some (.builtin id))(ha:PA X (e::es) t)(hk:PK X kws tk)(hn:x≠"__name__":=by decide)(hdb:(x==("__debug__":Str))=false:=by decide)
 (hks:(backToKw pos (keywordEach kws X.env)).filterMap (·.1)=ks:=by rfl)
 (he:backTo pos (starEach (e::es) X.env)=(false,eval e X.env)::backTo pos (starEach es X.env):=by rfl)
 (hplain:(backTo pos (starEach (e::es) X.env)).any (·.1)=false:=by rfl)
 (hall:(backToKw pos (keywordEach kws X.env)).all (·.1.isSome)=true:=by rfl)
 (hkw:(backToKw pos (keywordEach kws X.env)).any (·.1.isNone)=false:=by rfl):PE X (.Call (.Name x p) (e::es) kws pos) (zh6 r t tk):=by
 intro pins s σ H Q I h
 refine wpAny_Call_Name_kw (we I hg hm hv ?_ hn hdb)
 refine callWith_kw (thn (ha pos pins s σ H _ I h) fun us s1 ⟨vs,H1,I1,r1,q1⟩=>thn (hk pos pins s1 σ H1 _ I1 q1) fun ws s2 ⟨zs,H2,I2,r2,q2⟩=>?_) he hplain hall hkw
 rw[hks]
 exact hc pins s2 σ H2 vs zs us ws Q I2 r1 r2 q2
def zgP (bt:Nat→Nat→Bool)(xs:List V)(H:Hp)(Q:VK):Prop:=∀H',Same H H'→match pick bt xs.length with|none=>Q .non H'|some j=>∀x,xs[j]?=some x→Q x H'
def zhg (K:PySem.W.Frag):List V→List V→Hp→VK→Prop:=fun vs zs H Q=>∃(a:Addr) (xs:List V) (ms:Nat→List Int),vs=[.ref a]∧zs=[.non]∧SqL K H a xs∧(∀(i:Nat) x,xs[i]?=some x→∃q,x=.ref q∧H q=some (.tup ((ms i).map V.int)))∧zgP (fun i j=>HT.lexLt (ms i) (ms j)) xs H Q
theorem zhN (hK:X.K=K)(hc:X.calm=true)(hu:X.A.in1.units<cLine):zbr X "min" [Str.ofString "default"] (zhg K):=by
 subst hK
 intro pins s σ H vs zs us ws Q I r1 r2 h
 obtain⟨a,xs,ms,rfl,rfl,hl,hi,hb⟩:=h
 obtain⟨u,rfl,ru⟩:=vals1 r1
 cases ru
 obtain⟨d,rfl,rd⟩:=vals1 r2
 cases(show d=Value.none from rd)
 refine zbY (b:=true) (KV:=fun i y=>∃q,y=.ref q∧H q=some (.tup ((ms i).map V.int))) (bt:=fun i j=>HT.lexLt (ms i) (ms j)) (.dflt _) hc I hl (.inl ⟨rfl,fun i x hx=>hi i x hx⟩) ?_ (fun z=>nomatch z) (fun dn d r z=>by cases z;rfl) hb
 rintro i j y z v w' s' H' pins' Q' E' ⟨q1,rfl,e1⟩ ⟨q2,rfl,e2⟩ I' S' ry rz hq
 cases ry
 cases rz
 obtain⟨its,w1,p1,_⟩:=I'.tuple (SqT.of (K:=X.K) (S' _ _ e1))
 obtain⟨its2,w2,p2,_⟩:=I'.tuple (SqT.of (K:=X.K) (S' _ _ e2))
 show wpAny _ _ (compareOp .Lt (.ref q1) (.ref q2)) _ _ _
 exact HT.lt_tupInts p1 p2 (intsAre_of w1) (intsAre_of w2) hu hq
def zid (K:PySem.W.Frag)(b:Bool)(f:Addr)(sp:Sp):List V→List V→Hp→VK→Prop:=fun vs zs H Q=>∃a xs,∃kf:Nat→Int,vs=[.ref a]∧zs=[.ref f,.non]∧SqL K H a xs∧
 (∀(i:Nat) x H' (Qk:VK),xs[i]?=some x→Same H H'→(∀H2,Same H' H2→Qk (.int (kf i)) H2)→sp [x] H' Qk E0)∧zgP (fun i j=>if b then decide (kf i<kf j) else decide (kf j<kf i)) xs H Q
theorem zhM (b:Bool){k:Nat}{f:Addr}{fd:FuncData}{y:Str}{sp:Sp}(F:FnOk X.prog X.w X.K X.mg X.base CX0 k f fd [y] sp)(hr:Room k X.A.in1)(hbd:Binds X.K fd [y] [])(hK:X.K=K)(hc:X.calm=true) :
 zbr X (mmI b) [Str.ofString "key",Str.ofString "default"] (zid K b f sp):=by
 subst hK
 intro pins s σ H vs zs us ws Q I r1 r2 h
 obtain⟨a,xs,kf,rfl,rfl,hl,hi,hb⟩:=h
 obtain⟨u,rfl,ru⟩:=vals1 r1
 cases ru
 obtain⟨d1,d2,rfl,rd1,rd2⟩:=vals2 r2
 cases(show d1=Value.ref f from rd1)
 cases(show d2=Value.none from rd2)
 refine zbY (b:=b) (KV:=fun i y=>y=.int (kf i)) (bt:=fun i j=>if b then decide (kf i<kf j) else decide (kf j<kf i)) (.key f _) hc I hl (.inr ⟨f,rfl,?_⟩) ?_ (fun z=>nomatch z) (fun dn d r z=>by cases z;rfl) hb
 ·intro i x u pins' s' H' hx I' rx S'
  have hs:=hi i x H' (fun v H2=>v=.int (kf i)∧Same H' H2) hx S' (fun H2 S2=>⟨rfl,S2⟩)
  refine wpAny_call (codeAny_mono (F.run X.A.in1 X.stack s' H' ⟨[u],[]⟩ [u] [x] _ E0 hr I'.env0.in1 (by have:=hbd s' [u] I'.kIn rfl;simpa using this) (.cons rx .nil) hs) fun r s2 hq=>?_)
  cases r with
  |error e=>exact hq
  |ok fl=>
   cases fl with
   |ret v=>
    obtain⟨w,H2,I2,rw',e,S2⟩:=I'.after hq
    subst e
    exact⟨.int (kf i),H2,I2,rw',rfl,S2⟩
   |next=>exact False.elim hq
   |brk=>exact False.elim hq
   |cont=>exact False.elim hq
 ·rintro i j y z v w' s' H' pins' Q' E' rfl rfl I' S' ry rz hq
  obtain⟨t1,rfl⟩:=ry
  obtain⟨t2,rfl⟩:=rz
  cases b with
  |true=>
   show wpAny _ _ (compareOp .Lt _ _) _ _ _
   exact lt_int hq
  |false=>
   show wpAny _ _ (compareOp .Gt _ _) _ _ _
   exact gt_int hq
end
end
section
section
variable {X:Cx}{K:PySem.W.Frag}
end
end
section
def zhV (i j:Int):Prop:=0<j∧j<18446744073709551616
theorem gx {X:Cx}:OpR X (binaryOp .FloorDiv) (rI zhV fun i j=>.int (i/j)):=opI fun i j _ _ _ _ _ hc q=>by
 have h1:(0:Int)<j:=hc.1
 have h2:j<18446744073709551616:=hc.2
 refine floordiv_int (by omega) (by rw[Int.fdiv_eq_ediv_of_nonneg i (by omega)];exact q) (.inl (PyProof.noPylong_of_log2 ?_))
 have h0:j.natAbs≠0:=by omega
 have:j.natAbs.log2<64:=(Nat.log2_lt h0).mpr (by omega)
 omega
end
section
section
variable {prog:Program}{w:World}{A:Around}{E:Value→Shared→Prop}{s:Shared}
theorem zf2 {it t:Addr}{items:Array Value}(hne:t≠it):∀(n i:Nat) (s:Shared) (Q:List Value→Shared→Prop),s.heap.IsListIter it t i→s.heap.IsList t items→i+n≤items.size→
 (∀h',h'.IsListIter it t (i+n)→Heap.SameBut it s.heap h'→Q ((items.toList.drop i).take n) { s with heap:=h' })→wpAny (model prog w) A (draw (.ref it) n) Q E s
 |0,i,s,Q,hit,_,_,hQ=>by
  show wpAny _ _ (pure []) Q E s
  exact wpAny_pure (by simpa using hQ s.heap hit (Heap.SameBut.refl ..))
 |n+1,i,s,Q,hit,ht,hle,hQ=>by
  have hlt:i<items.size:=by omega
  show wpAny _ _ (pyNext (.ref it) >>= _) Q E s
  refine wpAny_bind (wpAny_pyNext_list_item hit ht (x:=items[i]) (by simp[hlt]) fun h₁ hit₁ hs₁=>?_)
  refine wpAny_bind (wpAny_holding (zf2 hne n (i+1) _ _ hit₁ (ht.at fun o e=>hs₁.extBut t o hne e) (by omega) fun h₂ hit₂ hs₂=>wpAny_pure ?_))
  have hd:items.toList.drop i=items[i]::items.toList.drop (i+1):=by simp[List.drop_eq_getElem_cons,hlt]
  have:=hQ h₂ (by rw[show i+(n+1)=i+1+n by omega];exact hit₂) (hs₁.trans hs₂)
  rw[hd,List.take_succ_cons] at this
  exact this
end
section
variable {X:Cx}{K:PySem.W.Frag}{pos:Pos}
theorem zho {st:Stmt}:PS X st (fun _ _ _=>False):=fun _ _ _ _ _ _ h=>h.elim
end
end
section
section
variable {κ:Type}[DecidableEq κ]
def qQ (kvs:List (κ×V))(k:κ):Option V:=(kvs.find? fun kv=>decide (kv.1=k)).map (·.2)
def putK (kvs:List (κ×V))(k:κ)(v:V):List (κ×V):=
 if(kvs.any fun kv=>decide (kv.1=k))=true then kvs.map (fun kv=>if kv.1=k then(kv.1,v) else kv) else kvs++[(k,v)]
def zf1 (kvs:List (κ×V))(k:κ):List (κ×V):=kvs.filter fun kv=>decide (kv.1≠k)
theorem pD {k:κ}:qQ ([]:List (κ×V)) k=none:=rfl
theorem vQ {p:κ×V}{r:List (κ×V)}{k:κ}(e:p.1=k):qQ (p::r) k=some p.2:=by simp[qQ,List.find?_cons,e]
theorem vR {p:κ×V}{r:List (κ×V)}{k:κ}(e:¬p.1=k):qQ (p::r) k=qQ r k:=by simp[qQ,List.find?_cons,e]
theorem kT (k:κ):∀kvs:List (κ×V),(kvs.any fun kv=>decide (kv.1=k))=(qQ kvs k).isSome
 |[]=>rfl
 |p::r=>by
  rw[List.any_cons]
  by_cases e:p.1=k
  ·simp only[vQ e,decide_eq_true e,Bool.true_or,Option.isSome_some]
  ·rw[vR e,decide_eq_false e,Bool.false_or];exact kT k r
theorem yK (kvs:List (κ×V))(k:κ)(v:V):(putK kvs k v).length≤kvs.length+1:=by
 unfold putK
 split
 ·rw[List.length_map];omega
 ·rw[List.length_append,List.length_cons,List.length_nil];omega
theorem zdF {kvs:List (κ×V)}{k:κ}(v:V)(h:qQ kvs k=none):putK kvs k v=kvs++[(k,v)]:=by
 unfold putK
 rw[kT,h]
 exact if_neg (by decide)
theorem RelO.isSome_eq {o:Option V}{u:Option Value}(r:RelO o u):o.isSome=u.isSome:=by
 cases o with
 |none=>cases u with
  |none=>rfl
  |some _=>exact(show False from r).elim
 |some _=>cases u with
  |none=>exact(show False from r).elim
  |some _=>rfl
theorem RelO.getD {o:Option V}{u:Option Value}{d:V}{d':Value}(r:RelO o u)(rd:RelV d d'):RelV (o.getD d) (u.getD d'):=by
 cases o with
 |none=>cases u with
  |none=>exact rd
  |some _=>exact(show False from r).elim
 |some _=>cases u with
  |none=>exact(show False from r).elim
  |some _=>exact r
theorem KV.val {kvs:List (κ×V)}{vs:List (κ×Value)}(r:KV kvs vs)(k:κ):RelO (qQ kvs k) (valueAt vs k):=by
 unfold KV at r
 induction r with
 |nil=>exact True.intro
 | @cons p q ps qs h t ih=>
  obtain⟨h1,h2⟩:=h
  by_cases e:p.1=k
  ·have e':q.1=k:=h1.symm.trans e
   have b:valueAt (q::qs) k=some q.2:=by simp[valueAt,List.find?_cons,e']
   rw[vQ e,b];exact h2
  ·have e':¬q.1=k:=fun z=>e (h1.trans z)
   have b:valueAt (q::qs) k=valueAt qs k:=by simp[valueAt,List.find?_cons,e']
   rw[vR e,b];exact ih
theorem KV.any {kvs:List (κ×V)}{vs:List (κ×Value)}(r:KV kvs vs)(k:κ):(kvs.any fun kv=>decide (kv.1=k))=vs.any fun kv=>decide (kv.1=k):=by
 unfold KV at r
 induction r with
 |nil=>rfl
 |cons h t ih=>rw[List.any_cons,List.any_cons,ih,h.1]
theorem KV.repl {kvs:List (κ×V)}{vs:List (κ×Value)}(r:KV kvs vs)(k:κ){y:V}{u:Value}(ry:RelV y u) :
 KV (kvs.map fun kv=>if kv.1=k then(kv.1,y) else kv) (vs.map fun kv=>if kv.1=k then(kv.1,u) else kv):=by
 unfold KV at r ⊢
 induction r with
 |nil=>exact .nil
 | @cons p q ps qs h t ih=>
  rw[List.map_cons,List.map_cons]
  refine .cons ?_ ih
  obtain⟨h1,h2⟩:=h
  by_cases e:p.1=k
  ·rw[if_pos e,if_pos (h1.symm.trans e)];exact⟨h1,ry⟩
  ·rw[if_neg e,if_neg (fun z=>e (h1.trans z))];exact⟨h1,h2⟩
theorem KV.put {kvs:List (κ×V)}{vs:List (κ×Value)}(r:KV kvs vs)(k:κ){y:V}{u:Value}(ry:RelV y u):KV (putK kvs k y) (stored vs k u):=by
 unfold putK stored
 rw[r.any k]
 by_cases e:(vs.any fun kv=>decide (kv.1=k))=true
 ·rw[if_pos e,if_pos e];exact r.repl k ry
 ·rw[if_neg e,if_neg e];exact Paired.snoc r ⟨rfl,ry⟩
theorem KV.drop {kvs:List (κ×V)}{vs:List (κ×Value)}(r:KV kvs vs)(k:κ):KV (zf1 kvs k) (without vs k):=by
 unfold KV at r ⊢
 unfold zf1 without
 induction r with
 |nil=>exact .nil
 | @cons p q ps qs h t ih=>
  obtain⟨h1,h2⟩:=h
  rw[List.filter_cons,List.filter_cons]
  by_cases e:p.1=k
  ·have a:¬decide (p.1≠k)=true:=by simp[e]
   have b:¬decide (q.1≠k)=true:=by simp[h1.symm.trans e]
   rw[if_neg a,if_neg b];exact ih
  ·have e':¬q.1=k:=fun z=>e (h1.trans z)
   have a:decide (p.1≠k)=true:=by simp[e]
   have b:decide (q.1≠k)=true:=by simp[e']
   rw[if_pos a,if_pos b];exact .cons ⟨h1,h2⟩ ih
theorem KV.length {kvs:List (κ×V)}{vs:List (κ×Value)}(r:KV kvs vs):kvs.length=vs.length:=Paired.length r
end
theorem bz {P:Program}{w:World}{k:Key}{u:Value}(r:RelV (kV k) u):(zY P w).is k u=true:=by
 cases k with
 |inl i=>obtain⟨t,e⟩:=(show ∃t,u=Value.int i t from r);subst e;exact zag P w i t
 |inr x=>obtain⟨t,e⟩:=(show ∃t,u=Value.str x t from r);subst e;exact zaf P w x t
theorem bC {P:Program}{w:World}:∀{ks:List Key}{us:List Value},Vals (ks.map kV) us→ItemsAre (zY P w) ks us
 |[],_,r=>by rw[List.map_nil] at r;cases r;exact .nil
 |k::ks,_,r=>by
  rw[List.map_cons] at r
  cases r with
  |cons h t=>exact .cons (bz h) (bC t)
abbrev KT (H:Hp):List (List Key×V)→List (List Key×Addr×Value)→Prop:=Paired fun p q=>p.1=q.1∧H q.2.1=some (.tup (p.1.map kV))∧RelV p.2 q.2.2
theorem KT.val {H:Hp}{kvs:List (List Key×V)}{xs:List (List Key×Addr×Value)}(r:KT H kvs xs)(k:List Key):RelO (qQ kvs k) ((atKey xs k).map (·.2)):=by
 induction r with
 |nil=>exact True.intro
 | @cons p q ps qs h t ih=>
  obtain⟨h1,_,h2⟩:=h
  by_cases e:p.1=k
  ·have e':q.1=k:=h1.symm.trans e
   have b:atKey (q::qs) k=some q.2:=by simp[atKey,List.find?_cons,e']
   rw[vQ e,b];exact h2
  ·have e':¬q.1=k:=fun z=>e (h1.trans z)
   have b:atKey (q::qs) k=atKey qs k:=by simp[atKey,List.find?_cons,e']
   rw[vR e,b];exact ih
theorem KT.repl {H:Hp}{kvs:List (List Key×V)}{xs:List (List Key×Addr×Value)}(r:KT H kvs xs)(k:List Key){y:V}{u:Value}(ry:RelV y u) :
 KT H (kvs.map fun kv=>if kv.1=k then(kv.1,y) else kv) (xs.map (putAt k u)):=by
 induction r with
 |nil=>exact .nil
 | @cons p q ps qs h t ih=>
  rw[List.map_cons,List.map_cons]
  refine .cons ?_ ih
  obtain⟨h1,h2,h3⟩:=h
  unfold putAt
  by_cases e:p.1=k
  ·rw[if_pos e,if_pos (h1.symm.trans e)];exact⟨h1,h2,ry⟩
  ·rw[if_neg e,if_neg (fun z=>e (h1.trans z))];exact⟨h1,h2,h3⟩
theorem KT.put {H:Hp}{kvs:List (List Key×V)}{xs:List (List Key×Addr×Value)}(r:KT H kvs xs)(k:List Key){b:Addr}{y:V}{u:Value}(hb:H b=some (.tup (k.map kV)))(ry:RelV y u) :
 KT H (putK kvs k y) (storedH xs k b u):=by
 have e:(kvs.any fun kv=>decide (kv.1=k))=(atKey xs k).isSome:=by
  rw[kT,(r.val k).isSome_eq,Option.isSome_map]
 unfold putK storedH
 rw[e]
 by_cases q:(atKey xs k).isSome=true
 ·rw[if_pos q,if_pos q];exact r.repl k ry
 ·rw[if_neg q,if_neg q];exact Paired.snoc r ⟨rfl,hb,ry⟩
theorem KT.keeps {H H':Hp}{kvs:List (List Key×V)}{xs:List (List Key×Addr×Value)}(r:KT H kvs xs)(ht:∀b ys,H b=some (.tup ys)→H' b=some (.tup ys)):KT H' kvs xs:=
 Paired.mapP r fun _ _ z=>⟨z.1,ht _ _ z.2.1,z.2.2⟩
section
variable {P:Program}{w:World}{H:Hp}{h:Heap}{a:Addr}
theorem zfR {u:HO}(ok:HOk P w H h)(e:Rd H a u):ObjOk P w H h a u:=e.ok ok
theorem zb9 {kvs:List (Key×V)}(ok:HOk P w H h)(e:Rd H a (.dK kvs)):kvs.length≤sizeLine∧(a==sysModules)=false∧∃vs,KV kvs vs∧h.DictOf (zY P w) a vs:=
 show ObjOk P w H h a (.dK kvs) from zfR ok e
theorem zhI {kvs:List (Key×V)}(ok:HOk P w H h)(e:H a=some (.dK kvs)):kvs.length≤sizeLine∧(a==sysModules)=false∧∃vs,KV kvs vs∧h.DictOf (zY P w) a vs:=zb9 ok (.inl e)
theorem dJ {ks:List Key}(ok:HOk P w H h)(e:H a=some (.tup (ks.map kV))):(tupleKind (zY P w)).is h ks a:=by
 obtain⟨_,its,r,o,h1,h2,n,h3⟩:=(show ObjOk P w H h a (.tup (ks.map kV)) from ok a _ e)
 exact⟨o,its.toArray,n,h1,h2,h3,by simpa using bC r⟩
theorem zb8 {kvs:List (List Key×V)}(ok:HOk P w H h)(e:Rd H a (.dT kvs)):kvs.length≤sizeLine∧(a==sysModules)=false∧
 ∃xs,KT H kvs xs∧h.DictOfH (tupleKind (zY P w)) a xs:=by
 obtain⟨z,y,xs,r,o,es,ep,h1,h2,h3,h4,h5⟩:=(show ObjOk P w H h a (.dT kvs) from zfR ok e)
 refine⟨z,y,xs,r,o,es,ep,h1,h2,h3,h4,fun x hx=>?_,h5⟩
 have all:∀{l:List (List Key×V)}{m:List (List Key×Addr×Value)},KT H l m→∀x∈m,(tupleKind (zY P w)).is h x.1 x.2.1:=by
  intro l m q
  induction q with
  |nil=>intro x hx;exact nomatch hx
  | @cons p q ps qs hq t ih=>
   intro x hx
   rcases List.mem_cons.mp hx with e|hx
   ·subst e
    exact dJ ok (by rw[←hq.1];exact hq.2.1)
   ·exact ih x hx
 exact all r x hx
theorem zhH {kvs:List (List Key×V)}(ok:HOk P w H h)(e:H a=some (.dT kvs)):kvs.length≤sizeLine∧(a==sysModules)=false∧
 ∃xs,KT H kvs xs∧h.DictOfH (tupleKind (zY P w)) a xs:=zb8 ok (.inl e)
end
def DGet (H:Hp)(a:Addr)(y:V)(r:Option V):Prop:=
 (∃kvs k,Rd H a (.dK kvs)∧y=kV k∧r=qQ kvs k)∨∃kvs k b,Rd H a (.dT kvs)∧y=.ref b∧H b=some (.tup (k.map kV))∧r=qQ kvs k
def DPut (H:Hp)(a:Addr)(y v:V)(H':Hp):Prop:=
 (∃kvs k,H a=some (.dK kvs)∧y=kV k∧kvs.length<sizeLine∧H'=upd H a (.dK (putK kvs k v)))∨
 ∃kvs k b,H a=some (.dT kvs)∧y=.ref b∧H b=some (.tup (k.map kV))∧kvs.length<sizeLine∧H'=upd H a (.dT (putK kvs k v))
theorem DGet.k {H:Hp}{a:Addr}{kvs:List (Key×V)}{k:Key}(e:H a=some (.dK kvs)):DGet H a (kV k) (qQ kvs k):=.inl ⟨kvs,k,.inl e,rfl,rfl⟩
theorem DGet.t {H:Hp}{a b:Addr}{kvs:List (List Key×V)}{k:List Key}(e:H a=some (.dT kvs))(eb:H b=some (.tup (k.map kV))):DGet H a (.ref b) (qQ kvs k):=.inr ⟨kvs,k,b,.inl e,rfl,eb,rfl⟩
theorem DPut.k {H:Hp}{a:Addr}{kvs:List (Key×V)}{k:Key}{v:V}(e:H a=some (.dK kvs))(hl:kvs.length<sizeLine):DPut H a (kV k) v (upd H a (.dK (putK kvs k v))):=.inl ⟨kvs,k,e,rfl,hl,rfl⟩
theorem DPut.t {H:Hp}{a b:Addr}{kvs:List (List Key×V)}{k:List Key}{v:V}(e:H a=some (.dT kvs))(eb:H b=some (.tup (k.map kV)))(hl:kvs.length<sizeLine) :
 DPut H a (.ref b) v (upd H a (.dT (putK kvs k v))):=.inr ⟨kvs,k,b,e,rfl,eb,hl,rfl⟩
section
variable {X:Cx}{pins:List (Addr×Obj)}{σ:St}{H:Hp}{s:Shared}{a:Addr}{y v:V}{u r:Value}{o:Option V}{A:Around}{E:Value→Shared→Prop}
theorem Inv.big (I:Inv X pins σ H s):sysModules<s.heap.objs.size:=by
 have h:mainGlobals<s.heap.objs.size:=(I.mod.glob.keeps I.bk).lt
 exact Nat.lt_trans (by decide) h
theorem zcZ {Q:Value→Shared→Prop}(hu:A.units+1<cLine)(I:Inv X pins σ H s)(g:DGet H a y (some v))(ry:RelV y u)(h:∀w' s',Inv X pins σ H s'→RelV v w'→Q w' s') :
 wpAny (model X.prog X.w) A (getItem (.ref a) u) Q E s:=by
 rcases g with⟨kvs,k,e,ey,l⟩|⟨kvs,k,b,e,ey,eb,l⟩
 ·subst ey
  obtain⟨z,hd,vs,rel,dd⟩:=zb9 I.hok e
  obtain⟨w',hw,rw'⟩:=RelO.some_of (v:=v) (o:=valueAt vs k) (by rw[l];exact rel.val k)
  exact wpAny_getItem_of (bz ry) dd.mapOf hw (h w' _ (I.tok _) rw')
 ·subst ey
  cases(show u=Value.ref b from ry)
  obtain⟨z,hd,xs,rel,dd⟩:=zb8 I.hok e
  obtain⟨w',hw,rw'⟩:=RelO.some_of (v:=v) (o:=(atKey xs k).map (·.2)) (by rw[l];exact rel.val k)
  obtain⟨p,hp,hp2⟩:=Option.map_eq_some_iff.mp hw
  refine wpAny_getItem_heap (tupleKind_room_in1 hu) (dJ I.hok eb) dd hp ?_
  rw[hp2]
  exact h w' _ (I.tok _) rw'
theorem zfw {Q:Value→Shared→Prop}(hu:A.units+1<cLine)(I:Inv X pins σ H s)(g:DGet H a y o)(ry:RelV y u)(h:∀s',Inv X pins σ H s'→Q (.bool (!o.isSome)) s') :
 wpAny (model X.prog X.w) A (compareOp .NotIn u (.ref a)) Q E s:=by
 rcases g with⟨kvs,k,e,ey,l⟩|⟨kvs,k,b,e,ey,eb,l⟩
 ·subst ey
  obtain⟨z,hd,vs,rel,dd⟩:=zb9 I.hok e
  refine wpAny_notIn_of (bz ry) hd dd.mapOf ?_
  rw[←(rel.val k).isSome_eq,←l]
  exact h _ (I.tok _)
 ·subst ey
  cases(show u=Value.ref b from ry)
  obtain⟨z,hd,xs,rel,dd⟩:=zb8 I.hok e
  refine wpAny_notIn_heap (tupleKind_room_in1 hu) (dJ I.hok eb) hd dd ?_
  have q:=(rel.val k).isSome_eq
  rw[Option.isSome_map] at q
  rw[←q,←l]
  exact h _ (I.tok _)
theorem zcd {h':Heap}{t':Nat}{ob:HO}(I:Inv X pins σ H s)(mu:Mut (H a))(hs:Heap.SameBut a s.heap h')(he:∃q,h'.get? a=some q)(new:ObjOk X.prog X.w (upd H a ob) h' a ob) :
 Inv X pins σ (upd H a ob) { s with heap:=h',toks:=t' }:=
 I.write (x:=a) (e:=a) mu (.inl rfl) (fun b q hb z=>(hs.2 b hb).trans z) he new
theorem zgJ {P:Program}{w:World}{H':Hp}{h':Heap}{kvs:List (Key×V)}{vs:List (Key×Value)}(z:kvs.length≤sizeLine)(hd:(a==sysModules)=false)(rel:KV kvs vs)(dd:h'.DictOf (zY P w) a vs) :
 ObjOk P w H' h' a (.dK kvs):=⟨z,hd,vs,rel,dd⟩
theorem zcY {H':Hp}{Q:Unit→Shared→Prop}(hu:A.units+1<cLine)(I:Inv X pins σ H s)(g:DPut H a y v H')(ry:RelV y u)(rv:RelV v r)(h:∀s',Inv X pins σ H' s'→Q () s') :
 wpAny (model X.prog X.w) A (setItem (.ref a) u r) Q E s:=by
 rcases g with⟨kvs,k,e,ey,l,eH⟩|⟨kvs,k,b,e,ey,eb,l,eH⟩
 ·subst ey eH
  obtain⟨z,hd,vs,rel,dd⟩:=zhI I.hok e
  have hz:vs.length≤sizeLine:=by rw[←rel.length];exact z
  have hl:(putK kvs k v).length≤sizeLine:=by have:=yK kvs k v;omega
  refine wpAny_setItem_pairs (hsz:=hz) (bz ry) dd fun h' dd' hs=>h _ ?_
  have he:∃q,h'.get? a=some q:=let ⟨q,_,_,hq,_⟩:=dd';⟨q,hq⟩
  exact zcd I (by rw[e];exact True.intro) hs he (zgJ hl hd (rel.put k rv) dd')
 ·subst ey eH
  cases(show u=Value.ref b from ry)
  obtain⟨z,hd,xs,rel,dd⟩:=zhH I.hok e
  have hz:xs.length≤sizeLine:=by rw[←Paired.length rel];exact z
  have hl:(putK kvs k v).length≤sizeLine:=by have:=yK kvs k v;omega
  refine wpAny_setItem_heap (hsz:=hz) (tupleKind_room_in1 hu) (dJ I.hok eb) dd fun h' dd' hs=>h _ ?_
  obtain⟨q,es,ep,hq,h2,h3,h4,_,h5⟩:=dd'
  refine zcd I (by rw[e];exact True.intro) hs ⟨q,hq⟩ ⟨hl,hd,_,(rel.put k eb rv).keeps fun c ys ec=>?_,q,es,ep,hq,h2,h3,h4,h5⟩
  rw[zf (wQ ec e (fun z=>nomatch z))]
  exact ec
end
section
variable {X:Cx}{pins:List (Addr×Obj)}{σ:St}{H:Hp}{s:Shared}{a:Addr}{kvs:List (Key×V)}{k:Key}{u:Value}{A:Around}{E:Value→Shared→Prop}
end
def zgM (i:Expr):Prop:=∀ov iv,subscripted i false ov iv=operate [ov,iv] (getItem ov iv)
theorem zbu {prog:Program}{w:World}{A:Around}{E:Value→Shared→Prop}{s:Shared}{env:Env}{value slice:Expr}{pos:Pos}{T id:String}{Q:Value→Shared→Prop}
 (hl:typeLookup (.type T) "__getitem__"=pure (some (.builtin id))) (hs:zgM slice)
 (h:wpAny (model prog w) A (eval value env) (fun o s₁=>wpAny (model prog w) A (eval slice env) (fun i s₂=>s₂.TypeIs o T∧wpAny (model prog w) A (getItem o i) Q E s₂) E s₁) E s) :
 wpAny (model prog w) A (eval (.Subscript value slice pos) env) Q E s:=by
 refine Subscript_ (wpAny_mono h (fun o s₁ h₁=>wpAny_mono h₁ (fun i s₂ h₂=>?_) fun _ _ x=>x) fun _ _ x=>x)
 obtain⟨hT,h₂⟩:=h₂
 unfold subscriptTail
 refine wpAny_bind ?_
 rw[getitemInPython_of_ne hT.not_modules]
 refine wpAny_bind (wpAny_specialOf hT hl ?_)
 have fin:wpAny (model prog w) A (subscripted slice false o i) (fun r s₃=>wpAny (model prog w) A (letTemporaryGo value o r >>= fun _=>pure r) Q E s₃) E s₂:=by
  rw[hs o i]
  exact wpAny_operating (wpAny_mono h₂ (fun r s₃ h₃=>wpAny_bind (wpAny_letTemporaryGo (wpAny_pure h₃))) fun _ _ x=>x)
 first
  |exact wpAny_pure (wpAny_bind fin)
  |exact wpAny_bind (wpAny_pure (wpAny_bind fin))
  |exact wpAny_bind fin
theorem zan {X:Cx}{pins:List (Addr×Obj)}{σ:St}{H:Hp}{s:Shared}{a:Addr}{y:V}{o:Option V}(I:Inv X pins σ H s)(g:DGet H a y o):s.TypeIs (.ref a) "dict":=by
 rcases g with⟨kvs,k,e,_,_⟩|⟨kvs,k,b,e,_,_,_⟩
 ·obtain⟨_,_,vs,_,dd⟩:=zb9 I.hok e
  exact dd.typeIs
 ·obtain⟨_,_,xs,_,dd⟩:=zb8 I.hok e
  exact dd.typeIs
def zg0 (td ty:TE):TE:=fun σ H Q=>td σ H fun x H1=>ty σ H1 fun y H2=>∃a v,x=.ref a∧DGet H2 a y (some v)∧Q v H2
def zeO (ty td:TE):TE:=fun σ H Q=>ty σ H fun y H1=>td σ H1 fun x H2=>∃a o,x=.ref a∧DGet H2 a y o∧Q (.bl (!o.isSome)) H2
def zhb (td ty tv:TE):TS:=fun D σ H=>tv σ H fun v H1=>td σ H1 fun x H2=>ty σ H2 fun y H3=>∃a H4,x=.ref a∧DPut H3 a y v H4∧D.nx σ H4
section
variable {X:Cx}{o i e value:Expr}{pos pos' tpos:Pos}{td ty tv:TE}
theorem ze4 (hu:X.A.units+1<cLine)(ho:PE X o td)(hi:PE X i ty)(hs:zgM i):PE X (.Subscript o i pos) (zg0 td ty):=by
 intro pins s σ H Q I h
 refine zbu PySem.F.slot_dict_getitem.lookup hs (thn (ho pins s σ H _ I h) fun u s1 ⟨x,H1,I1,rx,q1⟩=>thn (hi pins s1 σ H1 _ I1 q1) fun iv s2 ⟨y,H2,I2,ry,a,v,ex,g,q2⟩=>?_)
 subst ex
 obtain rfl:u=Value.ref a:=rx
 exact⟨zan I2 g,zcZ hu I2 g ry fun w' s3 I3 rw'=>⟨v,H2,I3,rw',q2⟩⟩
theorem zcA (hu:X.A.units+1<cLine)(hi:PE X i ty)(ho:PE X o td):PC X .NotIn i o (zeO ty td):=by
 intro pins s σ H Q I h
 refine thn (hi pins s σ H _ I h) fun iv s1 ⟨y,H1,I1,ry,q1⟩=>thn (ho pins s1 σ H1 _ I1 q1) fun u s2 ⟨x,H2,I2,rx,a,ov,ex,g,q2⟩=>?_
 subst ex
 obtain rfl:u=Value.ref a:=rx
 exact zfw hu I2 g ry fun s3 I3=>⟨.bl (!ov.isSome),H2,I3,rfl,q2⟩
theorem zbO (hu:X.A.units+1<cLine)(ho:PE X o td)(hi:PE X i ty)(hv:PE X value tv)(hs:swapsWith value (some (.Subscript o i pos')) pos.line X.env=pure false) :
 PS X (.Assign [.Subscript o i pos'] value pos) (zhb td ty tv):=by
 intro pins s σ H D I h
 refine wpAny_Assign_Subscript (thn (hv pins s σ H _ I h) fun r s1 ⟨v,H1,I1,rv,q1⟩=>thn (ho pins s1 σ H1 _ I1 q1) fun u s2 ⟨x,H2,I2,rx,q2⟩=>thn (hi pins s2 σ H2 _ I2 q2) fun iv s3 ⟨y,H3,I3,ry,a,H4,ex,g,q3⟩=>?_) hs
 subst ex
 obtain rfl:u=Value.ref a:=rx
 exact zcY hu I3 g ry rv fun s4 I4=>⟨σ,H4,I4,q3⟩
end
theorem zew {P:Program}{w:World}{H:Hp}(h:Heap)(hb:sysModules<h.objs.size):ObjOk P w H (h.push { cls:=.type "dict",data:=.dict #[] }) h.objs.size (.dK []):=
 ⟨Nat.zero_le _,beq_eq_false_iff_ne.mpr (Ne.symm (Nat.ne_of_lt hb)),[],.nil,Heap.DictOf.new h⟩
def zf9:TE:=fun _ H Q=>∀p,H p=none→Q (.ref p) (upd H p (.dK []))
section
variable {X:Cx}{pos:Pos}
theorem zdQ:PE X (.Dict [] [] pos) zf9:=fun pins s σ H Q I h=>
 wpAny_Dict_empty ⟨.ref s.heap.objs.size,_,I.laid (a:=s.heap.objs.size) (o:=.dK []) (t':=s.toks) (fun _ _ q=>Heap.get?_push_of_some _ q) (Nat.le_refl _) (zew s.heap I.big),rfl,h _ (I.hok.fresh (Nat.le_refl _))⟩
end
end
section
def RawD (h:Heap)(d:Addr)(es:Array DictEntry)(ep:Nat):Prop:=∃o,h.get? d=some o∧o.ExactDict∧o.data=.dict es ep
theorem RawD.at {h h':Heap}{d:Addr}{es:Array DictEntry}{ep:Nat}(x:RawD h d es ep)(k:∀o,h.get? d=some o→h'.get? d=some o):RawD h' d es ep:=let ⟨o,e,r⟩:=x;⟨o,k _ e,r⟩
section
variable {prog:Program}{w:World}{A:Around}{E:Value→Shared→Prop}{s:Shared}{d it:Addr}{es:Array DictEntry}{ep i:Nat}
end
end
section
section
variable {prog:Program}{w:World}{A:Around}{E:Value→Shared→Prop}{κ:SortKind}{it:Array Keyed}
end
section
variable {prog:Program}{w:World}{A:Around}{E:Value→Shared→Prop}{s:Shared}{a:Addr}{vs:List Value}
theorem zcB (vs:List Value):(pairsOf vs).map (·.2)=vs.toArray:=by
 apply Array.toList_inj.mp
 rw[Array.toList_map,pairsOf_toList]
 simp[List.map_snd_zip]
end
end
section
theorem Paired.at' {α β:Type}{F:α→β→Prop}:∀{l:List α}{m:List β}{i:Nat}{x:α},Paired F l m→l[i]?=some x→∃y,m[i]?=some y∧F x y
 |_,_,_,_,.nil,e=>by simp at e
 |_,_,0,_,.cons r _,e=>by simp at e;subst e;exact⟨_,rfl,r⟩
 |_,_,i+1,x,.cons _ t,e=>by simp at e;obtain⟨y,h1,h2⟩:=Paired.at' t e;exact⟨y,by simpa using h1,h2⟩
end
section
section
variable {prog:Program}{w:World}{A:Around}{E:Value→Shared→Prop}{s:Shared}{a b:Addr}{es:Array DictEntry}{ep ep':Nat}
end
end
section
inductive fo (A:Around)(s:Shared)(fin:Bool):List (Value×Value)→Bool→Prop
 |nil:fo A s fin [] fin
 |eq {p q:Value}{r:List (Value×Value)}{b:Bool}:SeqAt.EqAt A s p q true→fo A s fin r b→fo A s fin ((p,q)::r) b
 |ne {p q:Value}{r:List (Value×Value)}{b:Bool}:SeqAt.EqAt A s p q false→(∀(prog:Program) (w:World) (E:Value→Shared→Prop) (Q:Value→Shared→Prop),Q (.bool b) s→wpAny (model prog w) A (richCompare .Lt p q) Q E s)→fo A s fin ((p,q)::r) b
section
open PySem.SeqAt
open PySem.AutoSeq1 (wpAny_loadPart')
open PySem.MeetsSeq PySem.MeetsSeq2 PySem.MeetsSeq3
theorem bU (l b:Addr)(items items2:Array Value)(n n2:Nat)(dd dd2:Option Addr)(sl sl2:Array (Option Value))(v:Bool) :
 Meets (Builtin.«tuple.__lt__» ⟨[.ref l,.ref b],[]⟩)
  (fun A R s=>s.heap.get? l=some { cls:=.type "tuple",dict:=dd,data:=.seq items n,slots:=sl }∧s.heap.get? b=some { cls:=.type "tuple",dict:=dd2,data:=.seq items2 n2,slots:=sl2 }∧
    fo A.in1 s (decide (items.size<items2.size)) (items.toList.zip items2.toList) v∧R (.ok (.ret (.bool v))) s):=
 .of_wp fun prog w A R s h=>by
  obtain⟨hp,g,d,tk,os⟩:=s;obtain⟨hl,hb,hx,h⟩:=h
  have f2:=AutoSeq1.sub_tuple_tuple
  wp_walk using wpAny_loadPart' hl,wpAny_loadPart' hb,wpAny_forIn_list _ (fun rest b s'=>b.1=none∧s'=⟨hp,g,d,tk,os⟩∧fo A.in1 ⟨hp,g,d,tk,os⟩ (decide (items.size<items2.size)) rest v) _
  case turn=>
   rintro⟨y,x⟩ rest b s' ⟨hb',rfl,hx⟩
   cases hx with
   |eq he hr=>
    refine wpAny_bind (he prog w _ _ ?_)
    wp_walk
    exact⟨rfl,rfl,hr⟩
   |ne he hlt=>
    refine wpAny_bind (he prog w _ _ ?_)
    have hri:=hlt prog w
    wp_walk using hri
    exact⟨_,rfl,by simpa using h⟩
  case fin=>
   rintro⟨b1,b2⟩ s' ⟨hb',rfl,hx⟩
   simp only at hb'
   subst hb'
   cases hx
   wp_walk
   exact⟨_,rfl,by simpa[Builtin.Tuple.tupleCompareSizes] using h⟩
  case h=>
   exact⟨rfl,rfl,hx⟩
end
end
section
theorem vv {h:Heap}{a:Addr}{its:Array Value}(x:IsTup h a its):h.IsTuple a its:=x
theorem xA {h:Heap}{a:Addr}{xs ys:Array Value}(hx:IsTup h a xs)(hy:IsTup h a ys):xs=ys:=by
 obtain⟨o,e1,_,n,d1⟩:=hx
 obtain⟨o',e2,_,m,d2⟩:=hy
 rw[e1] at e2
 cases e2
 rw[d1] at d2
 cases d2
 rfl
theorem pairEq {A:Around}{s:Shared}{p q:Addr}{p1 p2 q1 q2:Int}{t1 t2 u1 u2:Tok}(hp:IsTup s.heap p #[.int p1 t1,.int p2 t2])(hq:IsTup s.heap q #[.int q1 u1,.int q2 u2])(hu:A.units<cLine) :
 SeqAt.EqAt A s (.ref p) (.ref q) (p1==q1&&p2==q2):=by
 by_cases e:p=q
 ·subst e
  have h:=xA hp hq
  have h0:(#[Value.int p1 t1,Value.int p2 t2]:Array Value)[0]? = #[Value.int q1 u1,Value.int q2 u2][0]?:=by rw[h]
  have h1:(#[Value.int p1 t1,Value.int p2 t2]:Array Value)[1]? = #[Value.int q1 u1,Value.int q2 u2][1]?:=by rw[h]
  simp at h0 h1
  rw[h0.1,h1.1]
  simp only[beq_self_eq_true,Bool.and_self]
  exact SeqAt.EqAt.same _
 ·refine SeqAt.EqAt.of_refs e fun prog w E Q h=>?_
  refine SeqAt.RcAt.tuples (e:=fun j=>if j=0 then p1==q1 else p2==q2) (vv hp) (vv hq) hu (fun j h1 h2=>?_) prog w E Q ?_
  ·match j,h1,h2 with
   |0,_,_=>exact SeqAt.EqAt.int_int _ _ _ _
   |1,_,_=>exact SeqAt.EqAt.int_int _ _ _ _
  ·have e2:((List.range (min (#[Value.int p1 t1,Value.int p2 t2]:Array Value).size (#[Value.int q1 u1,Value.int q2 u2]:Array Value).size)).all (fun j=>if j=0 then p1==q1 else p2==q2)&&(#[Value.int p1 t1,Value.int p2 t2]:Array Value).size==(#[Value.int q1 u1,Value.int q2 u2]:Array Value).size)=(p1==q1&&p2==q2):=by
    show((List.range 2).all (fun j=>if j=0 then p1==q1 else p2==q2)&&true)=_
    simp[List.range_succ]
   rw[e2]
   exact h
theorem wm {x:Int}{u:Value}(r:RelV (.int x) u):∃t,u=.int x t:=r
theorem ze8 {X:Cx}{pins:List (Addr×Obj)}{σ:St}{H:Hp}{s:Shared}{p:Addr}{p1 p2:Int}(I:Inv X pins σ H s)(h:SqT X.K H p [.int p1,.int p2]):∃t1 t2,IsTup s.heap p #[.int p1 t1,.int p2 t2]:=by
 obtain⟨its,rv,it,_⟩:=I.tuple h
 cases rv with
 |cons r1 r2=>
  cases r2 with
  |cons r3 r4=>
   cases r4
   obtain⟨t1,rfl⟩:=wm r1
   obtain⟨t2,rfl⟩:=wm r3
   exact⟨t1,t2,it⟩
end
section
section
variable {prog:Program}{w:World}{A:Around}{E:Value→Shared→Prop}{s:Shared}{d it vw:Addr}{es:Array DictEntry}{ep i:Nat}
end
end
section
end
section
section
variable {X:Cx}{a b c d:Expr}{ta tb tc td:TE}{pos:Pos}
end
end
end L2
namespace HT
open PySem PyProof.Rows
section
variable {prog:Program}{w:World}{A:Around}{E:Value→Shared→Prop}{s:Shared}
end
end HT
namespace L2
open PySem PySem.Spec PyProof.Rows
section
section
variable {X:Cx}{K:PySem.W.Frag}{e st:Expr}{te ts:TE}{p2 pos:Pos}
end
end
section
end
section
section
open PySem.SeqAt
open PySem.AutoSeq1 (wpAny_loadPart')
open PySem.MeetsSeq PySem.MeetsSeq2 PySem.MeetsSeq3
end
end
section
end
section
section
variable {X:Cx}{tg:Expr}
end
end
section
section
variable {X:Cx}{K:PySem.W.Frag}
def fl (n:Nat)(f:Nat→Int):List V:=(List.range n).map fun j=>V.int (f j)
end
end
section
section
variable {X:Cx}{K:PySem.W.Frag}
end
end
section
end
section
section
variable {X:Cx}{K:PySem.W.Frag}
def zhd:V→Option Int→Option Int→Hp→VK→Prop:=fun x lo hi H Q=>∃a xs,x=.ref a∧H a=some (.tup xs)∧∀q H',Same H H'→H' q=some (.tup (za9 xs lo hi))→Q (.ref q) H'
theorem zg8:SlR X zhd:=by
 intro pins s σ H x v vl vu lo hi sl Q I rx hs pl pu h
 obtain⟨a,xs,rfl,hx,q1⟩:=h
 by_cases hw:HT.sIx xs.length 0 lo=0∧HT.sIx xs.length xs.length hi=xs.length
 ·cases rx
  obtain⟨its,r,ht,hz⟩:=I.tuple (SqT.of hx)
  have hlen:its.toArray.size=xs.length:=by rw[List.size_toArray];exact r.length.symm
  refine⟨"tuple",_,PyProof.Rows.slot_tuple_getitem.lookup,ht.typeIs,HT.getItem_tuple_all ht hs pl pu (by rw[hlen];exact hw) ⟨.ref a,H,I,rfl,q1 a H (Same.refl H) ?_⟩⟩
  have e:za9 xs lo hi=xs:=by
   unfold za9
   rw[hw.1,hw.2];simp
  rw[e];exact hx
 ·exact zgf pins s σ H (.ref a) v vl vu lo hi sl Q I rx hs pl pu ⟨a,xs,rfl,SqT.of hx,hw,fun p hp=>q1 p _ (fun b o e=>by rw[zf (zc e hp)];exact e) zb⟩
def zhm:R2:=fun x y H Q=>∃a b xs ys,x=.ref a∧y=.ref b∧H a=some (.tup xs)∧H b=some (.tup ys)∧xs.length+ys.length≤sizeLine∧∀q H',Same H H'→H' q=some (.tup (xs++ys))→Q (.ref q) H'
theorem zfW:OpR X (binaryOp .Add) zhm:=by
 intro pins s σ H x y v u Q I rx ry h
 obtain⟨a,b,xs,ys,rfl,rfl,ha,hb,hz,q⟩:=h
 by_cases hx:xs=[]
 ·subst hx
  cases rx
  cases ry
  obtain⟨its,r1,p1,_⟩:=I.tuple (SqT.of ha)
  obtain⟨its2,r2,p2,_⟩:=I.tuple (SqT.of hb)
  cases r1
  obtain⟨⟨cls,dd,data,sl⟩,ho,hc,n,hd⟩:=id p1
  obtain⟨⟨cls2,dd2,data2,sl2⟩,ho2,hc2,n2,hd2⟩:=id p2
  simp only at hc hd hc2 hd2
  subst hc hd hc2 hd2
  exact concat_meets ⟨_,ho,rfl⟩ ⟨_,ho2,rfl⟩ noFill_tuple_add seq_tuple_add PySem.F.slot_tuple_add PySem.F.entry_tuple_add (PySem.F.args_tuple_add_2 _ _)
   (tuple_addW0 a b _ _ n n2 dd dd2 sl sl2 rfl) ⟨ho,ho2,⟨.ref b,H,I,rfl,q b H (Same.refl _) hb⟩⟩
 ·exact zfb pins s σ H (.ref a) (.ref b) v u Q I rx ry ⟨a,b,xs,ys,rfl,rfl,SqT.of ha,SqT.of hb,hx,hz,fun e=>by subst e;exact q a H (Same.refl _) (by rw[List.append_nil];exact ha),fun _ p hp=>q p _ (Same.lay hp) zb⟩
end
end
section
def EqD (K:PySem.W.Frag)(H:Hp):Nat→V→V→Bool→Prop
 |0,x,y,b=>yN x=true∧yN y=true∧b=eqV x y
 |n+1,x,y,b=>(yN x=true∧yN y=true∧b=eqV x y)∨
  (∃(c:Bool) (p q:Addr) (xs ys:List V) (e:Nat→Bool),x=.ref p∧y=.ref q∧SqB K c H p xs∧SqB K c H q ys∧(∀(j:Nat) (x' y':V),xs[j]?=some x'→ys[j]?=some y'→EqD K H n x' y' (e j))∧
    b=((xs.length==ys.length)&&(List.range xs.length).all e)∧(p=q→b=true))∨
  (∃(c:Bool) (p:Addr) (xs:List V),x=.ref p∧y=.non∧SqB K c H p xs∧b=false)∨
  (∃(c:Bool) (p:Addr) (xs:List V),x=.non∧y=.ref p∧SqB K c H p xs∧b=false)
section
variable {X:Cx}{pins:List (Addr×Obj)}{σ:St}{H:Hp}{s:Shared}
theorem zfu {its:List Value}{j:Nat}{u:Value}(h:j<its.toArray.size)(e:its[j]?=some u):its.toArray[j]=u:=by
 have:=List.getElem?_eq_some_iff.mp e
 simpa using this.2
theorem zgH (I:Inv X pins σ H s):∀(n:Nat) (A:Around){x y:V}{b:Bool}{v u:Value},EqD X.K H n x y b→RelV x v→RelV y u→A.units+n<cLine→SeqAt.EqAt A s v u b:=by
 intro n
 induction n with
 |zero=>
  intro A x y b v u h rx ry _
  obtain⟨f1,f2,rfl⟩:=h
  exact zet rx ry f1 f2
 |succ n ih=>
  intro A x y b v u h rx ry hu
  rcases h with⟨f1,f2,rfl⟩|⟨c,p,q,xs,ys,e,rfl,rfl,hp,hq,he,hb,hpq⟩|⟨c,p,xs,rfl,rfl,hp,rfl⟩|⟨c,p,xs,rfl,rfl,hp,rfl⟩
  ·exact zet rx ry f1 f2
  ·cases rx
   cases ry
   by_cases epq:p=q
   ·subst epq
    rw[hpq rfl]
    exact SeqAt.EqAt.same _
   ·refine SeqAt.EqAt.of_refs epq ?_
    obtain⟨its,r1,z1,_⟩:=I.seqB hp
    obtain⟨its2,r2,z2,_⟩:=I.seqB hq
    have l1:=r1.length
    have l2:=r2.length
    have items:∀(j:Nat) (h1:j<its.toArray.size) (h2:j<its2.toArray.size),SeqAt.EqAt A.in1 s its.toArray[j] its2.toArray[j] (e j):=fun j h1 h2=>by
     have h1':j<xs.length:=by rw[List.size_toArray] at h1;omega
     have h2':j<ys.length:=by rw[List.size_toArray] at h2;omega
     obtain⟨u1,e1,q1⟩:=r1.get (List.getElem?_eq_getElem h1')
     obtain⟨u2,e2,q2⟩:=r2.get (List.getElem?_eq_getElem h2')
     rw[zfu h1 e1,zfu h2 e2]
     exact ih A.in1 (he j _ _ (List.getElem?_eq_getElem h1') (List.getElem?_eq_getElem h2')) q1 q2 (by show A.units+1+n<cLine;omega)
    cases c with
    |false=>
     by_cases hl:xs.length=ys.length
     ·have:=SeqAt.RcAt.lists (A:=A) (e:=e) z1 z2 (by rw[List.size_toArray,List.size_toArray];omega) (by omega) items
      rw[List.size_toArray,←l1] at this
      rw[hb,hl,beq_self_eq_true,Bool.true_and,←hl]
      exact this
     ·rw[hb,beq_eq_false_iff_ne.mpr hl,Bool.false_and]
      exact SeqAt.RcAt.lists_lengths z1 z2 (by rw[List.size_toArray,List.size_toArray,bne_iff_ne];omega) (by omega)
    |true=>
     have:=SeqAt.RcAt.tuples (A:=A) (e:=e) z1 z2 (by omega) items
     rw[List.size_toArray,List.size_toArray,←l1,←l2] at this
     by_cases hl:xs.length=ys.length
     ·rw[hl,Nat.min_self,beq_self_eq_true,Bool.and_true] at this
      rw[hb,hl,beq_self_eq_true,Bool.true_and]
      exact this
     ·rw[beq_eq_false_iff_ne.mpr hl,Bool.and_false] at this
      rw[hb,beq_eq_false_iff_ne.mpr hl,Bool.false_and]
      exact this
  ·cases rx
   cases ry
   obtain⟨its,r1,z1,_⟩:=I.seqB hp
   cases c with
   |false=>exact SeqAt.EqAt.list_none z1 (by omega)
   |true=>exact SeqAt.EqAt.tuple_none z1 (by omega)
  ·cases rx
   cases ry
   obtain⟨its,r1,z1,_⟩:=I.seqB hp
   cases c with
   |false=>exact SeqAt.EqAt.none_list z1 (by omega)
   |true=>exact SeqAt.EqAt.none_tuple z1 (by omega)
def zhR (x y:V):Prop:=(∃p,x=.ref p)∨∃q,y=.ref q
theorem zhc (I:Inv X pins σ H s){n:Nat}{x y:V}{b:Bool}{v u:Value}(h:EqD X.K H (n+1) x y b)(hs:zhR x y)(rx:RelV x v)(ry:RelV y u)(hu:X.A.units+(n+1)<cLine):SeqAt.RcAt X.A s v u b∧SeqAt.RcNeAt X.A s v u (!b):=by
 have hu1:X.A.units<cLine:=by omega
 rcases h with⟨f1,f2,rfl⟩|⟨c,p,q,xs,ys,e,rfl,rfl,hp,hq,he,hb,hpq⟩|⟨c,p,xs,rfl,rfl,hp,rfl⟩|⟨c,p,xs,rfl,rfl,hp,rfl⟩
 ·rcases hs with⟨p,rfl⟩|⟨p,rfl⟩
  ·exact absurd (show false=true from f1) Bool.false_ne_true
  ·exact absurd (show false=true from f2) Bool.false_ne_true
 ·cases rx
  cases ry
  obtain⟨its,r1,z1,_⟩:=I.seqB hp
  obtain⟨its2,r2,z2,_⟩:=I.seqB hq
  have l1:=r1.length
  have l2:=r2.length
  have items:∀(j:Nat) (h1:j<its.toArray.size) (h2:j<its2.toArray.size),SeqAt.EqAt X.A.in1 s its.toArray[j] its2.toArray[j] (e j):=fun j h1 h2=>by
   have h1':j<xs.length:=by rw[List.size_toArray] at h1;omega
   have h2':j<ys.length:=by rw[List.size_toArray] at h2;omega
   obtain⟨u1,e1,q1⟩:=r1.get (List.getElem?_eq_getElem h1')
   obtain⟨u2,e2,q2⟩:=r2.get (List.getElem?_eq_getElem h2')
   rw[zfu h1 e1,zfu h2 e2]
   exact zgH I n X.A.in1 (he j _ _ (List.getElem?_eq_getElem h1') (List.getElem?_eq_getElem h2')) q1 q2 (by show X.A.units+1+n<cLine;omega)
  cases c with
  |false=>
   by_cases hl:xs.length=ys.length
   ·have h1:=SeqAt.RcAt.lists (A:=X.A) (e:=e) z1 z2 (by rw[List.size_toArray,List.size_toArray];omega) (by omega) items
    have h2:=SeqAt.RcNeAt.lists (A:=X.A) (e:=e) z1 z2 (by rw[List.size_toArray,List.size_toArray];omega) (by omega) items
    rw[List.size_toArray,←l1] at h1 h2
    rw[hb,hl,beq_self_eq_true,Bool.true_and,←hl]
    exact⟨h1,h2⟩
   ·rw[hb,beq_eq_false_iff_ne.mpr hl,Bool.false_and]
    exact⟨SeqAt.RcAt.lists_lengths z1 z2 (by rw[List.size_toArray,List.size_toArray,bne_iff_ne];omega) hu1,SeqAt.RcNeAt.lists_lengths z1 z2 (by rw[List.size_toArray,List.size_toArray,bne_iff_ne];omega) hu1⟩
  |true=>
   have h1:=SeqAt.RcAt.tuples (A:=X.A) (e:=e) z1 z2 (by omega) items
   have h2:=SeqAt.RcNeAt.tuples (A:=X.A) (e:=e) z1 z2 (by omega) items
   rw[List.size_toArray,List.size_toArray,←l1,←l2] at h1 h2
   by_cases hl:xs.length=ys.length
   ·rw[hl,Nat.min_self,beq_self_eq_true,Bool.and_true] at h1 h2
    rw[hb,hl,beq_self_eq_true,Bool.true_and]
    exact⟨h1,h2⟩
   ·rw[beq_eq_false_iff_ne.mpr hl,Bool.and_false] at h1 h2
    rw[hb,beq_eq_false_iff_ne.mpr hl,Bool.false_and]
    exact⟨h1,h2⟩
 ·cases rx
  cases ry
  obtain⟨its,r1,z1,_⟩:=I.seqB hp
  cases c with
  |false=>exact⟨SeqAt.RcAt.list_none z1 hu1,SeqAt.RcNeAt.list_none z1 hu1⟩
  |true=>exact⟨SeqAt.RcAt.tuple_none z1 hu1,SeqAt.RcNeAt.tuple_none z1 hu1⟩
 ·cases rx
  cases ry
  obtain⟨its,r1,z1,_⟩:=I.seqB hp
  cases c with
  |false=>exact⟨SeqAt.RcAt.none_list z1 hu1,SeqAt.RcNeAt.none_list z1 hu1⟩
  |true=>exact⟨SeqAt.RcAt.none_tuple z1 hu1,SeqAt.RcNeAt.none_tuple z1 hu1⟩
end
def zhk (K:PySem.W.Frag)(neg:Bool):R2:=fun x y H Q=>∃(n:Nat) (b:Bool),n<60∧EqD K H (n+1) x y b∧zhR x y∧Q (.bl (if neg then !b else b)) H
theorem zhv {X:Cx}{K:PySem.W.Frag}(hK:X.K=K)(hu:X.A.units+64<cLine):OpR X (compareOp .Eq) (zhk K false):=by
 subst hK
 intro pins s σ H x y v u Q I rx ry h
 obtain⟨n,b,hn,hd,hs,k⟩:=h
 exact(zhc I hd hs rx ry (by omega)).1 _ _ _ _ ⟨.bl b,H,I,rfl,k⟩
theorem zfi {X:Cx}{K:PySem.W.Frag}(hK:X.K=K)(hu:X.A.units+64<cLine):OpR X (compareOp .NotEq) (zhk K true):=by
 subst hK
 intro pins s σ H x y v u Q I rx ry h
 obtain⟨n,b,hn,hd,hs,k⟩:=h
 exact(zhc I hd hs rx ry (by omega)).2 _ _ _ _ ⟨.bl (!b),H,I,rfl,k⟩
section
variable {K:PySem.W.Frag}{H:Hp}
theorem EqD.flat {n:Nat}{x y:V}(h1:yN x=true)(h2:yN y=true):EqD K H n x y (eqV x y):=by
 cases n with
 |zero=>exact⟨h1,h2,rfl⟩
 |succ n=>exact .inl ⟨h1,h2,rfl⟩
theorem EqD.int {n:Nat}(i j:Int):EqD K H n (.int i) (.int j) (i==j):=EqD.flat rfl rfl
theorem EqD.int_t {n:Nat}(i:Int):EqD K H n (.int i) (.int i) true:=by
 have:=EqD.int (K:=K) (H:=H) (n:=n) i i
 rw[beq_self_eq_true] at this
 exact this
theorem EqD.seq {n:Nat}{c:Bool}{p q:Addr}{xs ys:List V}(hp:SqB K c H p xs)(hq:SqB K c H q ys)(hl:xs.length=ys.length)(h:∀(j:Nat) (x y:V),xs[j]?=some x→ys[j]?=some y→EqD K H n x y true):EqD K H (n+1) (.ref p) (.ref q) true:=by
 refine .inr (.inl ⟨c,p,q,xs,ys,fun _=>true,rfl,rfl,hp,hq,h,?_,fun _=>rfl⟩)
 rw[hl,beq_self_eq_true,Bool.true_and]
 exact(List.all_eq_true.mpr fun _ _=>rfl).symm
theorem EqD.ints {n:Nat}{c:Bool}{p q:Addr}{ns:List Int}(hp:SqB K c H p (ns.map V.int))(hq:SqB K c H q (ns.map V.int)):EqD K H (n+1) (.ref p) (.ref q) true:=
 EqD.seq hp hq rfl fun j x y h1 h2=>by
  rw[h1] at h2
  cases h2
  rw[List.getElem?_map] at h1
  obtain⟨i,_,rfl⟩:=Option.map_eq_some_iff.mp h1
  exact EqD.int_t i
theorem SqB.t {p:Addr}{xs:List V}(h:H p=some (.tup xs)):SqB K true H p xs:=SqT.of h
theorem SqB.l {p:Addr}{xs:List V}(h:H p=some (.lst xs)):SqB K false H p xs:=SqL.of h
end
end
section
section
variable {X:Cx}{K:PySem.W.Frag}{e st:Expr}{te ts:TE}{p2 pos:Pos}
end
end
section
structure wt (K:PySem.W.Frag)(C:Addr):Prop where
 ga:PySem.W.findIn K (.ref C) "__getattribute__"=some (some (.builtin "BaseException.__getattribute__"))
 gn:PySem.W.findIn K (.ref C) "__getattr__"=some none
 cl:PySem.W.findIn K (.ref C) "__class__"=some (some (.builtin "object.__class__"))
 ob:PySem.W.mroIn K C (.type "object")=some true
 bx:PySem.W.mroIn K C (.type "BaseException")=some true
 is:(PySem.W.clsIn K C).isSome=true
def ExcAt (a C:Addr)(h:Heap):Prop:=∃o,h.get? a=some o∧o.cls=.ref C∧∃vs,o.data=.fields vs
section
variable {prog:Program}{w:World}{A:Around}{E:Value→Shared→Prop}{h:Heap}{g:Array GenState}{d:Drawn}{t:Nat}{os:OsState}{a C:Addr}{o:Obj}{K:PySem.W.Frag}
theorem zaE {R:Result→Shared→Prop}(X:K.In h)(c:wt K C)(hx:h.get? a=some o)(hc:o.cls=.ref C)(hq:R (.ok (.ret (.ref C))) ⟨h,g,d,t,os⟩) :
 codeAny (model prog w) A (.call (.builtin "getset_descriptor.__get__") ⟨[.builtin "object.__class__",.ref a,.ref C],[]⟩) R ⟨h,g,d,t,os⟩:=by
 have hT5:(⟨h,g,d,t,os⟩:Shared).TypeIs (.builtin "object.__class__") "getset_descriptor":=F.typeOf_object_class
 have L:PySem.W.Looks (model prog w) h (isSubtype (.ref C) (.type (".".intercalate ("object.__class__".cutAt '.').dropLast))) true:=by
  rw[F.owner_object_class];exact PySem.W.looks_mroIn X c.ob
 refine codeAny_call_builtin F.slot_gs_get.plain F.entry_gs_get (F.slot_gs_get.check _ _ _ _ _ _ _ _ hT5 (F.args_gs_get _ _ _) ?_)
 repeat (any_goals (first|assumption|(with_reducible refine wpAny_loadPart_at hx ?_;rw[hc])|with_reducible refine L.at ?_|wp_step))
 refine⟨Code.quiet_builtin _ (by decide +kernel),codeAny_builtin F.entry_object_class ?_⟩
 repeat (any_goals (first|assumption|(with_reducible refine wpAny_loadPart_at hx ?_;rw[hc])|wp_step))
theorem bR {M:Model}{nameV:Value}{Q:Unit→Shared→Prop}(X:K.In h)(c:wt K C)(hx:h.get? a=some o)(hc:o.cls=.ref C)(hq:Q () ⟨h,g,d,t,os⟩) :
 wpAny M A (checkBuiltinCall "BaseException.__getattribute__" ⟨[.ref a,nameV],[]⟩) Q E ⟨h,g,d,t,os⟩:=by
 have hk:builtinKind "BaseException.__getattribute__"=some .slot:=by decide +kernel
 have hsplit:splitId "BaseException.__getattribute__"=some ("BaseException","__getattribute__"):=by decide +kernel
 have L:PySem.W.Looks M h (isSubtype (.ref C) (.type "BaseException")) true:=PySem.W.looks_mroIn X c.bx
 have ha:=F.args_bexc_ga (.ref a) nameV
 simp only[checkBuiltinCall,hk,hsplit]
 refine wpAny_bind ?_
 ·unfold isInstance
  repeat (first|(with_reducible refine wpAny_loadPart_at hx ?_;rw[hc])|with_reducible refine L.at ?_|wp_step)
  exact hq
theorem bQ {tk:Tok}{Q:Fin→Shared→Prop}(X:K.In h)(c:wt K C)(hx:h.get? a=some o)(hc:o.cls=.ref C)(hq:Q (.done (.ret (.ref C))) ⟨h,g,d,t,os⟩) :
 wpAny (model prog w) A (Builtin.«object.__getattribute__» ⟨[.ref a,.str "__class__" tk],[]⟩) Q E ⟨h,g,d,t,os⟩:=by
 have hT5:(⟨h,g,d,t,os⟩:Shared).TypeIs (.builtin "object.__class__") "getset_descriptor":=F.typeOf_object_class
 have f5:=F.typeOf_object_class
 have f6:=F.slot_gs_get.lookup
 have f7:=F.slot_gs_set.lookup
 have L:PySem.W.Looks (model prog w) h (typeLookup (.ref C) "__class__") (some (.builtin "object.__class__")):=PySem.W.looks_findIn X c.cl
 repeat (any_goals (first|assumption|(with_reducible refine wpAny_loadPart_at hx ?_;rw[hc])|with_reducible refine L.at ?_|wp_step))
 refine zaE X c hx hc ?_
 repeat (any_goals (first|assumption|wp_step))
theorem zck {tk:Tok}{Q:Value→Shared→Prop}(X:K.In h)(c:wt K C)(hx:h.get? a=some o)(hc:o.cls=.ref C)(hq:Q (.ref C) ⟨h,g,d,t,os⟩) :
 wpAny (model prog w) A (getAttrBy (.ref a) (.str "__class__" tk) false) Q E ⟨h,g,d,t,os⟩:=by
 have f3:=F.excAttr_ValueError.ga.bind (.ref a)
 have hx2:(Value.builtin "BaseException.__getattribute__"==Value.builtin "object.__getattribute__")=false:=by decide +kernel
 have hx1:(onTheHeap (Value.ref C)&&Value.builtin "BaseException.__getattribute__"==Value.builtin "object.__getattribute__")=false:=by rw[hx2];rfl
 have L1:PySem.W.Looks (model prog w) h (typeLookup (.ref C) "__getattribute__") (some (.builtin "BaseException.__getattribute__")):=PySem.W.looks_findIn X c.ga
 have L2:PySem.W.Looks (model prog w) h (typeLookup (.ref C) "__getattr__") none:=PySem.W.looks_findIn X c.gn
 repeat (any_goals (first|assumption|(with_reducible refine wpAny_loadPart_at hx ?_;rw[hc])|with_reducible refine L1.at ?_|with_reducible refine L2.at ?_|wp_step))
 refine codeAny_call_builtin F.excAttr_ValueError.ga.plain F.entry_bexc_ga (bR X c hx hc (bQ X c hx hc ?_))
 repeat (any_goals (first|assumption|wp_step))
theorem pk {Q:Option Value→Shared→Prop}(X:K.In h)(c:wt K C)(hx:h.get? a=some o)(hc:o.cls=.ref C)(hq:Q (some (.ref C)) ⟨h,g,d,t+1,os⟩) :
 wpAny (model prog w) A (getAttr? (.ref a) "__class__") Q E ⟨h,g,d,t,os⟩:=by
 unfold getAttr? getAttrBy?
 repeat (any_goals (first|assumption|with_reducible apply zck X c hx hc|wp_step))
end
theorem zak {K:PySem.W.Frag}{a C:Addr}(c:wt K C):PySem.W.KitX K (.ref a) (.ref C) (ExcAt a C) where
 ty:=fun M h X p=>by
  obtain⟨o,h1,h2,_⟩:=p
  exact h2▸(PySem.W.Looks.ld h1).andThen .now
 it:=fun _ _ X _=>by
  have hcD:=c.is
  unfold PySem.W.clsIn at hcD
  split at hcD
  ·rename_i c' d' cd' sl' ho
   intro A' Q' E' s' k q
   unfold isType loadHead
   exact wpAny_bind (wpAny_loadPart (k _ _ (X _ _ ho)) (wpAny_pure q))
  ·cases hcD
 ne:=fun h tp dd its n sl X htp=>by
  have hcD:=c.is
  refine Bool.eq_false_iff.mpr fun q=>?_
  have e:C=tp:=Value.ref.inj (beq_iff_eq.mp q)
  subst e
  unfold PySem.W.clsIn at hcD
  split at hcD
  ·rename_i c' d' cd' sl' ho
   have z:=(X _ _ ho).symm.trans htp
   cases z
  ·cases hcD
 ca:=fun {_ _ _ _ _ s} X p k=>by
  obtain⟨h,g,d,t,os⟩:=s
  obtain⟨o,h1,h2,_⟩:=p
  exact pk X c h1 h2 k
end
section
def zfz:V→Value
 | .ty n=>.type n
 | .ref D=>.ref D
 |_=>.none
def zb2:V→Bool
 | .ty _=>true
 | .ref _=>true
 |_=>false
def zhj (K:PySem.W.Frag):List V→Hp→VK→Prop:=fun xs H Q=>∃(a C:Addr) (c:V) (b:Bool),xs=[.ref a,c]∧H a=some (.ext (ExcAt a C))∧wt K C∧
 ((zb2 c=true∧PySem.W.kitOne K (.ref C) (zfz c)=some b)∨∃(p:Addr) (ys:List V),c=.ref p∧H p=some (.tup ys)∧ys.all zb2=true∧PySem.W.kitAny K (.ref C) (ys.map zfz)=some b)∧Q (.bl b) H
theorem zbL {c:V}{u:Value}(e:zb2 c=true)(r:RelV c u):u=zfz c:=by
 cases c with
 |ty n=>exact r
 |ref D=>exact r
 |_=>cases e
theorem pB:∀{ys:List V}{us:List Value},ys.all zb2=true→Vals ys us→us=ys.map zfz
 |[],_,_,r=>by cases r;rfl
 |y::ys,_,e,r=>by
  rw[List.all_cons,Bool.and_eq_true] at e
  cases r with
  |cons r1 r2=>rw[List.map_cons,zbL e.1 r1,pB e.2 r2]
section
variable {X:Cx}
theorem jq {K:PySem.W.Frag}(hK:X.K=K):CallR X (.builtin "isinstance") (zhj K):=by
 intro pins s σ H xs us Q I r h
 subst hK
 obtain⟨a,C,c,b,rfl,ea,xc,hc,q⟩:=h
 obtain⟨u,w',rfl,ru,rw'⟩:=vals2 r
 have fin:∀tk,EP X pins σ Q (.bool b) { s with toks:=tk }:=fun tk=>⟨.bl b,H,I.tok tk,rfl,q⟩
 obtain⟨pe,_,_⟩:=(show ObjOk X.prog X.w H s.heap a (.ext (ExcAt a C)) from I.hok a _ ea)
 cases(show u=Value.ref a from ru)
 rcases hc with⟨ic,e⟩|⟨p,ys,rfl,hp,al,e⟩
 ·cases zbL ic rw'
  exact PySem.W.kia_one (zak xc) I.kIn pe e (fun z=>nomatch z) fin
 ·cases(show w'=Value.ref p from rw')
  obtain⟨_,its,rv,o,ho,hc,n,hd⟩:=I.hok p _ hp
  have ei:=pB al rv
  subst ei
  obtain⟨oc,od,odt,osl⟩:=o
  simp only at hc hd
  subst hc hd
  exact PySem.W.kia_tup (zak xc) I.kIn pe ho e (fun z=>nomatch z) fin
end
def zhQ (h:Heap)(a C:Addr)(T:Option Addr):Prop:=∃oe vs,h.get? a=some oe∧oe.cls=.ref C∧oe.data=.fields vs∧
 match T with
 |none=>vs[1]?=some .none
 |some t=>vs[1]?=some (.ref t)∧t≠a∧∃oT ts,h.get? t=some oT∧oT.data=.fields ts∧ts[3]?=some .none
section
variable {X:Cx}{pins:List (Addr×Obj)}{σ:St}{H H':Hp}{s:Shared}{h':Heap}{ch:List Addr}
abbrev Cx.exs (X:Cx)(ch:List Addr):Cx:={ X with ex:=X.ex++ch }
theorem Inv.exs (I:Inv X pins σ H s)(hch:∀b∈ch,X.s₀.heap.get? b=none∧b≠X.env.locals∧(∀x c,X.env.cells.lookup x=some c→c≠b)):Inv (X.exs ch) pins σ H s:=by
 have nb:∀b o,X.s₀.heap.get? b=some o→b∉ch:=fun b o e hb=>by rw[(hch b hb).1] at e;cases e
 have ok:=I.ok
 refine⟨⟨ok.mod,ok.kind,ok.glob,ok.blt,ok.above,ok.inj,ok.has,ok.cab,ok.hd,ok.frames,ok.stk,fun b hb=>?_,ok.bs,ok.bsz,fun b o e hb=>?_,fun b hb hf=>?_,ok.funs,ok.frf⟩,I.os,I.bare,
  ⟨fun b o e n hb hx=>I.base.keep b o e n hb fun z=>hx (List.mem_append_left _ z),fun b o e n hb hx=>I.base.slot b o e n hb fun z=>hx (List.mem_append_left _ z),fun b o e n hx=>I.base.free b o e n fun z=>hx (List.mem_append_left _ z),fun b o e hx=>I.base.there b o e fun z=>hx (List.mem_append_left _ z),I.base.tups,I.base.frzs,I.base.tbls⟩,
  I.loc,I.cell,I.free,I.freeC,I.pin,I.hok,I.len⟩
 ·rcases List.mem_append.mp hb with z|z
  ·exact ok.exf b z
  ·exact⟨(hch b z).2.1,(hch b z).2.2⟩
 ·rcases List.mem_append.mp hb with z|z
  ·exact ok.noex b o e z
  ·exact nb b o (ok.bs b o e).1 z
 ·rcases List.mem_append.mp hb with z|z
  ·exact ok.exfs b z hf
  ·obtain⟨_,o,ho,_⟩:=ok.funs.mem hf
   exact nb b o ho z
theorem Inv.unexs (I:Inv (X.exs ch) pins σ H s)(ok:X.Ok)(hch:∀b∈ch,X.s₀.heap.get? b=none):Inv X pins σ H s:=by
 have nb:∀b o,X.s₀.heap.get? b=some o→b∉X.ex→b∉X.ex++ch:=fun b o e n hb=>by
  rcases List.mem_append.mp hb with z|z
  ·exact n z
  ·rw[hch b z] at e;cases e
 exact⟨ok,I.os,I.bare,⟨fun b o e n hb hx=>I.base.keep b o e n hb (nb b o e hx),fun b o e n hb hx=>I.base.slot b o e n hb (nb b o e hx),fun b o e n hx=>I.base.free b o e n (nb b o e hx),fun b o e hx=>I.base.there b o e (nb b o e hx),I.base.tups,I.base.frzs,I.base.tbls⟩,
  I.loc,I.cell,I.free,I.freeC,I.pin,I.hok,I.len⟩
theorem Inv.news (I:Inv X pins σ H s)(hn:∀b∈ch,X.s₀.heap.get? b=none∧H b=none∧b∉frs X.stack∧b≠X.env.locals∧(∀x c,X.env.cells.lookup x=some c→c≠b)∧∀p∈X.pn++pins,p.1≠b)
 (hk:(PySem.W.hideAll s.heap (ch++frs X.stack)).StaysIn h') (hs:∀b o,s.heap.get? b=some o→(∀vs,o.data≠.fields vs)→∃sl,h'.get? b=some { o with slots:=sl }) (t':Nat) :
 Inv X pins σ H { s with heap:=h',toks:=t' }:=by
 have kp:∀b o,s.heap.get? b=some o→b∉frs X.stack→b∉ch→h'.get? b=some o:=fun b o e n1 n2=>hk b o (PySem.W.hideAll_get _ e fun z=>(List.mem_append.mp z).elim n2 n1)
 have fs:∀b o,s.heap.get? b=some o→b∈frs X.stack→∃sl,h'.get? b=some { o with slots:=sl }:=fun b o e hb=>by
  obtain⟨_,o',ho',hd⟩:=I.stack.mem hb
  rw[e] at ho';cases ho'
  exact hs b o e hd
 have hch':∀b∈ch,X.s₀.heap.get? b=none∧b≠X.env.locals∧(∀x c,X.env.cells.lookup x=some c→c≠b):=fun b hb=>⟨(hn b hb).1,(hn b hb).2.2.2.1,(hn b hb).2.2.2.2.1⟩
 refine Inv.unexs (ch:=ch) ((I.exs hch').call (g':=s.gens) (d':=s.drawn) (ch:=ch) ⟨fun b o e n hb hx=>kp b o e hb hx,fun b o e n hb hx=>fs b o e hb,fun b o e n hx=>n,fun b o e hx=>?_,fun b xs e=>e,fun b o u e=>e,fun b ps e=>⟨#[],by rw[e];simp⟩⟩ (fun b u e=>?_) I.bare fun b hb=>?_) I.ok fun b hb=>(hn b hb).1
 ·by_cases hf:b∈frs X.stack
  ·obtain⟨sl,q⟩:=fs b o e hf
   exact⟨_,q⟩
  ·exact⟨o,kp b o e hf hx⟩
 ·have nf:∀c u,H c=some u→c∉frs X.stack∧c∉ch:=fun c u q=>⟨fun z=>(by rw[I.stkFree c z] at q;cases q),fun z=>(by rw[(hn c z).2.1] at q;cases q)⟩
  refine(I.hok b u e).stay (fun c v hc q=>?_) (fun _ q=>q) fun _ _ q=>q
  rcases hc with z|z
  ·exact kp c v q (z▸nf b u e).1 (z▸nf b u e).2
  ·exact kp c v q (nf c _ z).1 (nf c _ z).2
 ·exact⟨.inl (List.mem_append_right _ hb),(hn b hb).2.2.2.1,(hn b hb).2.2.2.2.1,(hn b hb).2.2.2.2.2⟩
end
end
section
def Nw (X:Cx)(pins:List (Addr×Obj))(H:Hp)(b:Addr):Prop:=
 X.s₀.heap.get? b=none∧H b=none∧b∉frs X.stack∧b≠X.env.locals∧(∀x c,X.env.cells.lookup x=some c→c≠b)∧∀p∈X.pn++pins,p.1≠b
structure Fly (X:Cx)(pins:List (Addr×Obj))(σ:St)(H:Hp)(s:Shared)(a C:Addr)(T:Option Addr):Prop where
 inv:Inv X pins σ H s
 xrec:zhQ s.heap a C T
 na:Nw X pins H a
 nt:∀t,T=some t→Nw X pins H t
structure Full (X:Cx):Prop where
 stk:X.stack=X.env::X.outer
 fr:X.env.frame=some X.env.locals
 ex:X.ex=[]
section
variable {X:Cx}{pins:List (Addr×Obj)}{σ:St}{H:Hp}{s:Shared}{a C:Addr}{T:Option Addr}{h':Heap}
theorem Inv.nw (I:Inv X pins σ H s)(f:Full X){b:Addr}(e:s.heap.get? b=none):Nw X pins H b:=by
 have ne:∀c o,s.heap.get? c=some o→c≠b:=fun c o q z=>by rw[z,e] at q;cases q
 refine⟨?_,?_,fun z=>?_,fun z=>?_,fun x c q z=>?_,fun p hp z=>?_⟩
 ·cases q:X.s₀.heap.get? b with
  |none=>rfl
  |some o=>
   obtain⟨o',q'⟩:=I.base.there b o q (by rw[f.ex];simp)
   exact absurd rfl (ne b o' q')
 ·cases q:H b with
  |none=>rfl
  |some u=>
   have lt:=I.hok.lt q
   exfalso
   have ok:=I.hok b u q
   cases u with
   |lst xs=>obtain⟨_,_,_,_,q'⟩:=ok;exact ne b _ q' rfl
   |tup xs=>obtain⟨_,_,_,⟨o,q',_⟩⟩:=ok;exact ne b _ q' rfl
   |dK kvs=>obtain⟨_,_,_,_,o,_,_,q',_⟩:=ok;exact ne b _ q' rfl
   |dT kvs=>obtain⟨_,_,_,_,o,_,_,q',_⟩:=ok;exact ne b _ q' rfl
   |set S n=>obtain⟨o,_,_,_,q',_⟩:=ok;exact ne b _ q' rfl
   |ins C dx fs=>obtain⟨_,_,_,q',_⟩:=ok;exact ne b _ q' rfl
   |own y=>obtain⟨_,q'⟩:=ok;exact ne b _ q' rfl
   |xd fs=>obtain⟨_,⟨_,_,_,q',_⟩,_⟩:=ok;exact ne b _ q' rfl
   |rng lo hi=>obtain⟨_,_,_,q'⟩:=ok;exact ne b _ q' rfl
   |frz ob u=>obtain⟨q',_⟩:=ok;exact ne b _ q' rfl
   |tbl ps=>exact ne b _ (show s.heap.get? b=some _ from ok) rfl
   |met f y=>exact ne b _ (show s.heap.get? b=some _ from ok) rfl
   |ext φ=>obtain⟨_,⟨_,q'⟩,_⟩:=ok;exact ne b _ q' rfl
 ·obtain⟨_,o,ho,_⟩:=I.stack.mem z
  exact ne b o ho rfl
 ·obtain⟨m,⟨o,_,_,ho,_⟩,_⟩:=I.loc
  exact ne _ o ho z.symm
 ·obtain⟨v,o,ho,_⟩:=I.cell x c q
  exact ne c o ho z
 ·exact ne _ _ (I.pin p hp).1 z
abbrev qW (X:Cx)(h:Heap)(a:Addr)(T:Option Addr):Heap:=PySem.W.hideAll h ((a::T.toList)++frs X.stack)
theorem Fly.frames (F:Fly X pins σ H s a C T):s.heap.FunFrames (qW X s.heap a T) X.stack:=
 PySem.W.funFrames_hide F.inv.stack fun env he b hb=>List.mem_append_right _ (List.mem_filterMap.mpr ⟨env,he,hb⟩)
theorem Fly.bareStays (F:Fly X pins σ H s a C T):(qW X s.heap a T).StaysIn s.heap:=fun b o e=>PySem.W.of_hideAll _ e
theorem Fly.bareNone (F:Fly X pins σ H s a C T):(qW X s.heap a T).get? a=none:=PySem.W.hideAll_none _ (by simp)
theorem Fly.on (F:Fly X pins σ H s a C T)(f:Full X)(st:(qW X s.heap a T).StaysIn h')(ff:h'.FunFrames (qW X s.heap a T) X.stack)(tr:h'.Traced (qW X s.heap a T) a (.ref C))(sl:s.heap.UpToSlots h') :
 ∃t',Fly X pins σ H { s with heap:=h' } a C (some t'):=by
 have I:=F.inv
 have hch:∀b∈a::T.toList,Nw X pins H b:=fun b hb=>by
  rcases List.mem_cons.mp hb with rfl|hb
  ·exact F.na
  ·exact F.nt b (by simpa using hb)
 have I':Inv X pins σ H { s with heap:=h' }:=I.news hch st sl s.toks
 obtain⟨oe,vs,t',oT,ts,he,hcl,hd,h1,hn,hne,hT,hdT,h3⟩:=tr
 refine⟨t',I',⟨oe,vs,he,hcl,hd,h1,hne,oT,ts,hT,hdT,h3⟩,F.na,fun t e=>?_⟩
 cases e
 cases q:s.heap.get? t' with
 |none=>exact I.nw f q
 |some o=>
  by_cases hm:t'∈(a::T.toList)++frs X.stack
  ·rcases List.mem_append.mp hm with z|z
   ·exact hch t' z
   ·obtain⟨_,o',ho',hnf⟩:=ff.mem z
    rw[hT] at ho';cases ho'
    exact absurd hdT (hnf ts)
  ·have:=PySem.W.hideAll_get _ q hm
   rw[hn] at this
   cases this
theorem Fly.leave (F:Fly X pins σ H s a C T)(f:Full X){M:Model}{Q:Unit→Shared→Prop}{E:Value→Shared→Prop}(k:∀s' t,Fly X pins σ H s' a C (some t)→Q () s'):wpAny M X.A (leaving X.env (.ref a)) Q E s:=by
 have hfr:X.A.frames=some (X.env::X.outer):=by rw[←f.stk];exact F.inv.ok.frames
 have hl:s.heap.FunFrames (qW X s.heap a T) (X.env::X.outer):=by rw[←f.stk];exact F.frames
 obtain⟨oe,vs,he,hcl,hd,h1⟩:=F.xrec
 cases T with
 |none=>
  refine wpAny_leaving_first hfr hl f.fr he F.bareStays F.bareNone hd h1 fun h' ⟨k1,k2,k3,k4⟩=>?_
  rw[hcl] at k3
  obtain⟨t',F'⟩:=F.on f k1 (by rw[f.stk];exact k2) k3 k4
  exact k _ t' F'
 |some t=>
  obtain⟨h1,hne,oT,ts,hT,hdT,h3⟩:=h1
  refine wpAny_leaving_next hfr hl f.fr (cls:=.ref C) ⟨oe,vs,t,oT,ts,he,hcl,hd,h1,PySem.W.hideAll_none _ (by simp),hne,hT,hdT,h3⟩ F.bareStays F.bareNone fun h' ⟨k1,k2,k3,k4⟩=>?_
  obtain⟨t',F'⟩:=F.on f k1 (by rw[f.stk];exact k2) k3 k4
  exact k _ t' F'
theorem Fly.flyW {t:Addr}(F:Fly X pins σ H s a C (some t)):∃a0,Heap.FlyingW (qW X s.heap a (some t)) X.stack a (.ref C) a0 s.heap:=by
 obtain⟨oe,vs,he,hcl,hd,h1,hne,oT,ts,hT,hdT,h3⟩:=F.xrec
 have hsz:1<vs.size:=(Array.getElem?_eq_some_iff.mp h1).1
 refine⟨vs[0]'(by omega),F.bareStays,F.bareNone,F.frames,oe,vs,t,oT,ts,he,⟨hcl,Array.getElem?_eq_getElem (by omega)⟩,hd,h1,PySem.W.hideAll_none _ (by simp),hne,hT,hdT,h3⟩
theorem Fly.onW {t:Addr}{a0:Value}(F:Fly X pins σ H s a C (some t))(f:Full X)(fl:Heap.FlyingW (qW X s.heap a (some t)) X.stack a (.ref C) a0 h')(sl:s.heap.UpToSlots h') :
 ∃t',Fly X pins σ H { s with heap:=h' } a C (some t'):=by
 obtain⟨k1,k2,k3,oe,vs,T',oT,ts,he,⟨hcl,_⟩,r⟩:=fl
 exact F.on f k1 k3 ⟨oe,vs,T',oT,ts,he,hcl,r⟩ sl
theorem Fly.note {t:Addr}(F:Fly X pins σ H s a C (some t))(f:Full X){M:Model}{Q:Unit→Shared→Prop}{E:Value→Shared→Prop}(k:∀s' t,Fly X pins σ H s' a C (some t)→Q () s') :
 wpAny M X.A (noteFrame (.ref a) X.env) (fun _ s2=>wpAny M X.A (setFlight (.ref a) none) Q E s2) E s:=by
 have hfr:X.A.frames=some (X.env::X.outer):=by rw[←f.stk];exact F.inv.ok.frames
 obtain⟨a0,fl⟩:=F.flyW
 refine wpAny_looks_onW hfr f.fr (by rw[←f.stk];exact fl) fun h4 hh sl4=>wpAny_landsW hh fun h5 fl5 sl5=>?_
 obtain⟨t',F'⟩:=F.onW f (by rw[f.stk];exact fl5) (sl4.trans sl5)
 exact k _ t' F'
theorem Fly.land {t:Addr}(F:Fly X pins σ H s a C (some t))(f:Full X){M:Model}{A:Around}{Q:Unit→Shared→Prop}{E:Value→Shared→Prop}(k:∀s' t,Fly X pins σ H s' a C (some t)→Q () s') :
 wpAny M A (setFlight (.ref a) none) Q E s:=by
 obtain⟨a0,fl⟩:=F.flyW
 refine lands_againW fl fun h5 fl5 sl5=>?_
 obtain⟨t',F'⟩:=F.onW f fl5 sl5
 exact k _ t' F'
end
def CXx (P:Program)(w:World):CXT:=fun outer H s E e s'=>∃(a C t:Addr) (H':Hp),e=.ref a∧s'.os=s.os∧AllBare s'.gens∧Un (frs outer) [] H H' s.heap s'.heap∧HOk P w H' s'.heap∧
 zhQ s'.heap a C (some t)∧s.heap.get? a=none∧s.heap.get? t=none∧H' a=none∧H' t=none∧E (.ref C) none H'
section
variable {X:Cx}{pins:List (Addr×Obj)}{σ:St}{H:Hp}{s s':Shared}{a C:Addr}{E:XK}{e:Value}
theorem Inv.flies (I:Inv X pins σ H s)(f:Full X)(h:CXx X.prog X.w X.stack H s E e s'):∃a C t H',e=.ref a∧Fly X pins σ H' s' a C (some t)∧E (.ref C) none H':=by
 obtain⟨a,C,t,H',rfl,os,bare,un,hok,xr,na,nt,ha,ht,q⟩:=h
 refine⟨a,C,t,H',rfl,⟨I.call' os un hok bare (fun b z=>absurd z (by simp)),xr,?_,fun t' e=>?_⟩,q⟩
 ·obtain⟨n1,_,n3⟩:=I.nw f na
  exact⟨n1,ha,n3⟩
 ·cases e
  obtain⟨n1,_,n3⟩:=I.nw f nt
  exact⟨n1,ht,n3⟩
theorem Fly.out {T:Option Addr}(F:Fly X pins σ H s a C T)(f:Full X){M:Model}{E':Value→Shared→Prop}(q:E (.ref C) none H) :
 wpAny M X.A (leaving X.env (.ref a)) (fun _ s'=>CXx X.prog X.w X.outer X.H₀ X.s₀ E (.ref a) s') E' s:=
 F.leave f fun s' t F'=>⟨a,C,t,H,rfl,F'.inv.os,F'.inv.bare,by have:=F'.inv.base;rw[f.ex] at this;exact this,F'.inv.hok,F'.xrec,F'.na.1,(F'.nt t rfl).1,F'.na.2.1,(F'.nt t rfl).2.1,q⟩
end
section
variable {P:Program}{w:World}{K:PySem.W.Frag}{mg:Str→Option Value}{base:Heap}{N:List Str}{qual:Str}{scope:Scope}{f:Addr}{cd:Value}{A:Around}{outer:List Env}{s:Shared}{H:Hp}{E E':XK}
theorem zM {CX:CXT}:Full (v9 CX P w K mg base N qual scope f cd A outer s H E):=⟨rfl,rfl,rfl⟩
theorem jT (h:∀c d H',E' c d H'→E c d H'):je (CXx P w) (v9 (CXx P w) P w K mg base N qual scope f cd A outer s H E) E':=by
 intro pins σ H1 s1 e s' I hc
 obtain⟨a,C,t,H',rfl,F,q⟩:=I.flies zM hc
 exact F.out zM (h _ _ _ q)
theorem Fun.okX {x qual:Str}{st:Stmt}{f:Addr}{fd:FuncData}{N ps:List Str}{k:Nat}{sp:Sp}(F:Fun K x qual st f fd)(S:zl N ps (zd st))(len:∀vs H Q E,sp vs H Q E→vs.length=ps.length)
 (hbody:∀(cdv:Value) (A:Around) (outer:List Env) (s:Shared) (H:Hp) (vs:List V) (Q:VK) (E:XK),Room k (A.deeper (envOfC qual (zd st) s.heap.objs.size f cdv))→sp vs H Q E→
   ∃t,PSs (v9 (CXx P w) P w K mg base N qual (zd st) f cdv A outer s H E) (qE st) t∧t { nx:=fun _ H'=>Q .non H',rt:=Q } (start N vs) H):FnOk P w K mg base (CXx P w) (k+1) f fd ps sp:=by
 obtain⟨oc,od,kV,doc,pm,an,cdv,ct,osl,rfl,lk,hcd⟩:=F.ex
 exact zep lk hcd S len fun A outer s H vs Q E hr hsp=>hbody cdv A outer s H vs Q E hr hsp
end
end
section
abbrev bmV:List Value:=[.type "ValueError",.type "Exception",.type "BaseException",.type "object"]
theorem bF {K:PySem.W.Frag}{h:Heap}{C:Addr}{bmB:List Value}{newId:String}(X:K.In h)(q:PySem.W.excIn K C bmB newId=true) :
 ∃bm N nm qn bs hdct sn sub ab col dd k0 k1 k2 k3 k5 mN,h.get? C=some (excClassObj nm qn C N bs bm hdct sn sub ab col dd k0 k1 k2 k3 k5 newId)∧h.Ns N mN∧mN "__init__"=none∧OwnTail h bmB bm:=by
 unfold PySem.W.excIn at q
 split at q
 ·rename_i dd cd sl ho
  split at q
  ·rename_i C' bm k0 k1 k2 k3 n k5 hm hs
   simp only[Bool.and_eq_true,beq_iff_eq,Bool.not_eq_true'] at q
   obtain⟨⟨⟨⟨⟨rfl,rfl⟩,hdel⟩,ht⟩,hok⟩,hni⟩:=q
   obtain⟨nm,bs,mro,ns,qn,hd,sn,sub,ab,col,del⟩:=cd
   dsimp only at hm hdel hok hni
   subst hm hdel
   have hsl:sl = #[k0,k1,k2,k3,some (.builtin n),k5]:=by
    obtain⟨l⟩:=sl
    simp only at hs
    rw[hs]
   subst hsl
   exact⟨bm,ns,nm,qn,bs,hd,sn,sub,ab,col,dd,k0,k1,k2,k3,k5,_,X _ _ ho,.of_isNs (PySem.W.isNs_of_in X hok),PySem.W.nsMap_none_of_in X hok hni,PySem.W.tail_of_in X ht⟩
  ·cases q
 ·cases q
def x4 (C:Addr)(E:XK)(t:TA):TS:=fun D σ H=>t σ H fun vs H'=>vs.length≤sizeLine∧E (.ref C) none H'
section
variable {X:Cx}
theorem qi {x:Str}{C:Addr}{e:Expr}{np cpos pos:Pos}{t:TA}{E:XK}(f:Full X)(hc:X.calm=true)(hg:Gl X x)(hm:X.mg x=some (.ref C))(hx:PySem.W.excIn X.K C bmV "ValueError.__new__"=true)(ha:PA X [e] t)
 (hE:∀(pins:List (Addr×Obj)) (σ:St) (H:Hp) (s:Shared) (a:Addr),Fly X pins σ H s a C none→E (.ref C) none H→X.xe (.ref a) s)
 (hs:starEach [e] X.env=[(false,eval e X.env)]:=by rfl) (hd:(x==("__debug__":Str))=false:=by decide) :
 PS X (.Raise (some (.Call (.Name x np) [e] [] cpos)) none pos) (x4 C E t):=by
 intro pins s σ H D I h
 obtain⟨bm0,_,_,_,_,_,_,_,_,_,_,_,_,_,_,_,_,hC0,_,_,T0⟩:=bF I.kIn hx
 obtain⟨bm,N,nm,qn,bs,hdct,sn,sub,ab,col,dd,k0,k1,k2,k3,k5,mN,hC,hN,hni,T⟩:=bF I.ok.mod.kin hx
 refine wpAny_Raise_call_subU (mN:=mN) (C:=C) (nm:=nm) (q:=qn) (N:=N) (bs:=bs) (bm:=bm) (hdct:=hdct) (sn:=sn) (sub:=sub) (ab:=ab) (col:=col) (dd:=dd) (k0:=k0) (k1:=k1) (k2:=k2) (k3:=k3) (k5:=k5)
  F.excBase_ValueError (by decide +kernel) F.excBase_ValueError (T.hasType (by decide +kernel)) (I.ok.hd hc) (by rw[hs];rfl) hni ?_
 refine thn (zK hg hm (v:=.ref C) rfl hd pins s σ H (fun v H'=>v=.ref C∧H'=H) I ⟨rfl,rfl⟩) fun u s0 ⟨v,H',I0,r0,e1,e2⟩=>?_
 subst e1 e2
 obtain rfl:u=Value.ref C:=r0
 refine⟨rfl,?_⟩
 rw[hs]
 refine Calls.evalArgs_plain ?_
 have ha':=ha cpos pins s0 σ H' _ I0 h
 rw[hs] at ha'
 refine thn ha' fun us s1 ⟨vs,H1,I1,r,hl,q⟩=>?_
 have keep:∀b o,X.base.get? b=some o→s1.heap.get? b=some o:=I1.bk
 refine⟨rfl,by show us.length≤_;rw[←r.length];exact hl,keep _ _ hC,hN.keeps keep,T.keeps keep,fun h' a hmd=>?_⟩
 obtain⟨tt,he,_,_⟩:=hmd.there
 have I2:Inv X pins σ H1 { s1 with heap:=h' }:=I1.kept (t':=s1.toks) hmd.keeps
 exact hE pins σ H1 _ a ⟨I2,⟨_,_,he,rfl,rfl,rfl⟩,I1.nw f hmd.new,fun t e=>by cases e⟩ q
end
theorem jY {P:Program}{w:World}{K:PySem.W.Frag}{mg:Str→Option Value}{base:Heap}{N:List Str}{qual:Str}{scope:Scope}{f:Addr}{cd:Value}{A:Around}{outer:List Env}{s:Shared}{H:Hp}{E:XK}{C:Addr} :
 ∀(pins:List (Addr×Obj)) (σ:St) (H1:Hp) (s1:Shared) (a:Addr),Fly (v9 (CXx P w) P w K mg base N qual scope f cd A outer s H E) pins σ H1 s1 a C none→E (.ref C) none H1→(v9 (CXx P w) P w K mg base N qual scope f cd A outer s H E).xe (.ref a) s1:=
 fun pins σ H1 s1 a F q=>F.out zM q
end
section
structure zgL (K:PySem.W.Frag)(S:Addr):Prop where
 ty:PySem.W.typeIn K (.ref S)=some (.type "type")
 bx:PySem.W.mroIn K S (.type "BaseException")=some true
 is:(PySem.W.clsIn K S).isSome=true
theorem zf5 {K:PySem.W.Frag}{M:Model}{A:Around}{E:Value→Shared→Prop}{h:Heap}{g:Array GenState}{d:Drawn}{t:Nat}{os:OsState}{e C S:Addr}{oe:Obj}{b:Bool}{Q:Bool→Shared→Prop}
 (X:K.In h) (xs:zgL K S) (hs:PySem.W.mroIn K C (.ref S)=some b) (he:h.get? e=some oe) (hcls:oe.cls=.ref C) (hq:Q b ⟨h,g,d,t,os⟩):wpAny M A (excMatches (.ref e) (.ref S)) Q E ⟨h,g,d,t,os⟩:=by
 have L1:PySem.W.Looks M h (typeOf (.ref S)) (.type "type"):=PySem.W.looks_typeIn X xs.ty
 have L2:PySem.W.Looks M h (isSubtype (.ref S) (.type "BaseException")) true:=PySem.W.looks_mroIn X xs.bx
 have L3:PySem.W.Looks M h (isSubtype (.ref C) (.ref S)) b:=PySem.W.looks_mroIn X hs
 have f:=tc_notTuple
 have L4:PySem.W.Looks M h (isType (.ref S)) true:=by
  have hcD:=xs.is
  unfold PySem.W.clsIn at hcD
  split at hcD
  ·rename_i c' d' cd' sl' ho
   intro A' Q' E' s' k q
   unfold isType loadHead
   exact wpAny_bind (wpAny_loadPart (k _ _ (X _ _ ho)) (wpAny_pure q))
  ·cases hcD
 unfold excMatches isInstance isExcClass
 repeat (first|(with_reducible refine wpAny_loadPart_at he ?_;rw[hcls])|with_reducible refine L1.at ?_|with_reducible refine L4.at ?_|with_reducible refine L2.at ?_|with_reducible refine L3.at ?_|wp_step)
 cases b<;>first|exact hq|(wp_walk;exact hq)
section
variable {X:Cx}{pins:List (Addr×Obj)}{σ:St}{H:Hp}{s:Shared}{a C t:Addr}{h':Heap}
theorem Fly.pin (F:Fly X pins σ H s a C (some t)):∃oe oT:Obj,Inv X (pins++[(a,oe),(t,oT)]) σ H s∧oe.cls=.ref C∧
 ∀(X':Cx) (s':Shared),Inv X' (pins++[(a,oe),(t,oT)]) σ H s'→Inv X pins σ H s'→s'.heap.get? a=some oe∧Fly X pins σ H s' a C (some t):=by
 obtain⟨oe,vs,he,hcl,hd,h1,hne,oT,ts,hT,hdT,h3⟩:=F.xrec
 have ff:∀b∈frs X.stack,∀o vs,s.heap.get? b=some o→o.data=.fields vs→False:=fun b hb o vs e q=>by
  obtain⟨_,o',ho',hnf⟩:=F.inv.stack.mem hb
  rw[e] at ho';cases ho'
  exact hnf vs q
 have fs:∀b∈X.fs,b∈frs X.stack∨True:=fun _ _=>.inr trivial
 have nfs:∀b o vs,s.heap.get? b=some o→o.data=.fields vs→b∉X.fs:=fun b o vs e q hb=>by
  obtain⟨_,o',ho',hnf⟩:=F.inv.funs.mem hb
  rw[e] at ho';cases ho'
  exact hnf vs q
 refine⟨oe,oT,F.inv.pins_of fun p hp=>?_,hcl,fun X' s' I' I=>?_⟩
 ·rcases List.mem_append.mp hp with z|z
  ·exact F.inv.pin p (List.mem_append_right _ z)
  ·rcases List.mem_cons.mp z with rfl|z
   ·exact⟨he,F.na.2.1,F.na.2.2.2.1,nfs _ _ _ he hd,fun v q=>by rw[hd] at q;cases q⟩
   ·rcases List.mem_cons.mp z with rfl|z
    ·exact⟨hT,(F.nt t rfl).2.1,(F.nt t rfl).2.2.2.1,nfs _ _ _ hT hdT,fun v q=>by rw[hdT] at q;cases q⟩
    ·exact nomatch z
 ·have e1:=(I'.pin (a,oe) (List.mem_append_right _ (List.mem_append_right _ (.head _)))).1
  have e2:=(I'.pin (t,oT) (List.mem_append_right _ (List.mem_append_right _ (.tail _ (.head _))))).1
  exact⟨e1,I,⟨oe,vs,e1,hcl,hd,h1,hne,oT,ts,e2,hdT,h3⟩,F.na,F.nt⟩
theorem Fly.track {T:Option Addr}(F:Fly X pins σ H s a C T):Inv X pins σ (upd H a (.ext (ExcAt a C))) s:=by
 have I:=F.inv
 obtain⟨n1,n2,n3,n4,n5,n6⟩:=F.na
 have ne:∀b u,H b=some u→b≠a:=fun b u e z=>by rw[z,n2] at e;cases e
 obtain⟨oe,vs,he,hcl,hd,_⟩:=F.xrec
 refine⟨I.ok,I.os,I.bare,⟨I.base.keep,I.base.slot,fun b o e n hx=>?_,I.base.there,fun b xs e=>?_,fun b o u e=>?_,fun b ps e=>?_⟩,I.loc,I.cell,?_,fun x c e=>?_,fun p hp=>?_,fun b u e=>?_,I.len⟩
 ·rw[zf fun z=>by rw[z,n1] at e;cases e];exact I.base.free b o e n hx
 ·rw[zf (ne b _ (I.base.tups b xs e))];exact I.base.tups b xs e
 ·rw[zf (ne b _ (I.base.frzs b o u e))];exact I.base.frzs b o u e
 ·obtain⟨more,q⟩:=I.base.tbls b ps e
  exact⟨more,by rw[zf (ne b _ q)];exact q⟩
 ·rw[zf (Ne.symm n4)];exact I.free
 ·rw[zf (n5 x c e)];exact I.freeC x c e
 ·obtain⟨q1,q2,q3⟩:=I.pin p hp
  exact⟨q1,by rw[zf (n6 p hp)];exact q2,q3⟩
 ·by_cases hb:b=a
  ·subst hb
   rw[zb] at e;cases e
   exact⟨⟨oe,he,hcl,vs,hd⟩,⟨oe,he⟩,fun h1 h2 ⟨o,q,r⟩ k=>⟨o,k o q,r⟩⟩
  ·rw[zf hb] at e
   exact(I.hok b u e).stay (fun c v _ q=>q) (fun c q=>by rw[zf (ne c _ q)];exact q) fun c xs q=>by rw[zf (ne c _ q)];exact q
theorem kM {M:Model}{A:Around}{E:Value→Shared→Prop}{i:Nat}{n:Str}{pos:Pos}{Q:Unit→Shared→Prop}(I:Inv X pins σ H s)(hN:X.N.Nodup)(hi:X.N[i]?=some n)(hk:X.env.kindOf n=some .local)
 (h:∀s',Inv X pins (σ.set i none) H s'→Q () s'):wpAny M A (do bindName X.env n .none;unbindBehindTheSuite X.env n pos) Q E s:=by
 obtain⟨m,hn,hl⟩:=id I.loc
 have hcls:(X.env.scope.kind==.class||(X.env.scope.kind==.module&&X.env.locals != X.env.globals))=false:=by rw[I.ok.kind];rfl
 refine wpAny_nameGoes_keeps hk hn hcls fun h' v hn' hs=>?_
 obtain⟨oL,_,_,hoL,_⟩:=id hn
 have cne:=I.cne
 have neL:∀b o,X.s₀.heap.get? b=some o→b≠X.env.locals:=fun b o e=>Nat.ne_of_lt (Nat.lt_of_lt_of_le (Heap.lt_size e) I.ok.above)
 refine h _ ⟨I.ok,I.os,I.bare,⟨fun b o e n hb hx=>(hs.2 b (neL b o e)).trans (I.base.keep b o e n hb hx),fun b o e n hb hx=>?_,I.base.free,fun b o e hx=>?_,I.base.tups,I.base.frzs,I.base.tbls⟩,⟨_,hn',fun j y v' e1 e2 e3=>?_⟩,fun y c e=>?_,I.free,I.freeC,fun p hp=>?_,fun b ob e=>?_,by simpa using I.len⟩
 ·obtain⟨sl,e1⟩:=I.base.slot b o e n hb hx
  exact⟨sl,(hs.2 b (neL b o e)).trans e1⟩
 ·obtain⟨o',e1⟩:=I.base.there b o e hx
  exact⟨o',(hs.2 b (neL b o e)).trans e1⟩
 ·by_cases hj:j=i
  ·subst hj
   rw[List.getElem?_set] at e2
   split at e2
   ·split at e2<;>cases e2
   ·rename_i z;exact absurd rfl z
  ·rw[List.getElem?_set_ne (Ne.symm hj)] at e2
   obtain⟨u',r',q⟩:=hl j y v' e1 e2 e3
   refine⟨u',r',?_⟩
   rcases q with⟨k,e⟩|⟨k,c,e,z⟩
   ·refine .inl ⟨k,?_⟩
    have:y≠n:=fun e=>hj (gE hN e1 (e▸hi))
    simp[this,e]
   ·exact .inr ⟨k,c,e,z.sameBut hs (cne y c e)⟩
 ·obtain⟨w',z⟩:=I.cell y c e
  exact⟨w',z.sameBut hs (cne y c e)⟩
 ·obtain⟨e,n,ne,nf,d⟩:=I.pin p hp
  exact⟨(hs.2 p.1 ne).trans e,n,ne,nf,d⟩
 ·refine(I.hok b ob e).stay (fun c w' hc q=>(hs.2 c ?_).trans q) (fun _ q=>q) fun _ _ q=>q
  rintro rfl
  rcases hc with hc|hc
  ·rw[←hc,I.free] at e;cases e
  ·rw[I.free] at hc;cases hc
end
abbrev Cx.tried (X:Cx)(pn:List (Addr×Obj))(E:Value→Shared→Prop):Cx:={ X with pn:=pn,xe:=E }
abbrev Cx.hnd (X:Cx)(e:Value):Cx:={ X with A:=X.A.mark (some e),calm:=false,xe:=fun _ _=>False }
section
variable {X:Cx}{pins p2:List (Addr×Obj)}{σ:St}{H:Hp}{s:Shared}{E:Value→Shared→Prop}{e:Value}
theorem Cx.Ok.tried (ok:X.Ok){pn:List (Addr×Obj)}:(X.tried pn E).Ok:=⟨ok.mod,ok.kind,ok.glob,ok.blt,ok.above,ok.inj,ok.has,ok.cab,ok.hd,ok.frames,ok.stk,ok.exf,ok.bs,ok.bsz,ok.noex,ok.exfs,ok.funs,ok.frf⟩
theorem Cx.Ok.untried {pn:List (Addr×Obj)}(ok:(X.tried pn E).Ok):X.Ok:=⟨ok.mod,ok.kind,ok.glob,ok.blt,ok.above,ok.inj,ok.has,ok.cab,ok.hd,ok.frames,ok.stk,ok.exf,ok.bs,ok.bsz,ok.noex,ok.exfs,ok.funs,ok.frf⟩
theorem Inv.tried (I:Inv X pins σ H s):Inv (X.tried (X.pn++pins) E) [] σ H s:=⟨I.ok.tried,I.os,I.bare,I.base,I.loc,I.cell,I.free,I.freeC,fun p hp=>I.pin p (by simpa using hp),I.hok,I.len⟩
theorem Inv.untried (I:Inv (X.tried (X.pn++pins) E) p2 σ H s):Inv X pins σ H s:=⟨I.ok.untried,I.os,I.bare,I.base,I.loc,I.cell,I.free,I.freeC,fun p hp=>I.pin p (List.mem_append_left _ hp),I.hok,I.len⟩
theorem Inv.hnd (I:Inv X pins σ H s):Inv (X.hnd e) pins σ H s:=
 have ok:=I.ok
 ⟨⟨ok.mod,ok.kind,ok.glob,ok.blt,ok.above,ok.inj,ok.has,ok.cab,fun z=>Bool.noConfusion z,ok.frames,ok.stk,ok.exf,ok.bs,ok.bsz,ok.noex,ok.exfs,ok.funs,ok.frf⟩,I.os,I.bare,I.base,I.loc,I.cell,I.free,I.freeC,I.pin,I.hok,I.len⟩
theorem Inv.unhnd (I:Inv (X.hnd e) pins σ H s)(ok:X.Ok):Inv X pins σ H s:=⟨ok,I.os,I.bare,I.base,I.loc,I.cell,I.free,I.freeC,I.pin,I.hok,I.len⟩
end
def zem (i:Nat)(D:Ends):Ends:={ nx:=fun σ H=>D.nx (σ.set i none) H,rt:=D.rt,bk:=fun σ H=>D.bk (σ.set i none) H,ct:=fun σ H=>D.ct (σ.set i none) H }
def zhX (K:PySem.W.Frag)(S:Addr)(i:Nat)(EX:XK)(tb ts:TS):TS:=fun D σ H=>
 (∀c H',EX c none H'→∃C,c=.ref C∧wt K C∧PySem.W.mroIn K C (.ref S)=some true∧∀(a:Addr) (σ':St),H' a=none→σ'.length=σ.length→ts (zem i D) (σ'.set i (some (.ref a))) (upd H' a (.ext (ExcAt a C))))∧tb D σ H
theorem zgm {X:Cx}{i:Nat}{x n:Str}{S:Addr}{body:List Stmt}{b0:Stmt}{suite:List Stmt}{np hpos pos:Pos}{tb ts:TS}{EX:XK}(f:Full X)(hN:X.N.Nodup)(hg:Gl X x)(hm:X.mg x=some (.ref S))(xs:zgL X.K S)
 (hb:∀(pn:List (Addr×Obj)) (E:Value→Shared→Prop),je (CXx X.prog X.w) (X.tried pn E) EX→PSs (X.tried pn E) body tb)
 (hs:∀e:Value,PSs (X.hnd e) (b0::suite) ts) (hi:X.N[i]?=some n:=by rfl) (hk:X.env.kindOf n=some .local:=by rfl) (hd:(x==("__debug__":Str))=false:=by decide) :
 PS X (.Try body [.ExceptHandler (some (.Name x np)) (some n) (b0::suite) hpos] [] [] pos) (zhX X.K S i EX tb ts):=by
 intro pins s σ H D I h
 obtain⟨hX,h⟩:=h
 refine wpAny_Try_except ?_
 have up:∀f s',SP (X.tried (X.pn++pins) fun e s'=>∃a C t σ' H',e=.ref a∧σ'.length=σ.length∧Fly X pins σ' H' s' a C (some t)∧EX (.ref C) none H') [] D f s'→SP X pins D f s':=fun f s' q=>by
  cases f with
  |next=>obtain⟨σ',H',I',q⟩:=q;exact⟨σ',H',I'.untried,q⟩
  |brk=>obtain⟨σ',H',I',q⟩:=q;exact⟨σ',H',I'.untried,q⟩
  |cont=>obtain⟨σ',H',I',q⟩:=q;exact⟨σ',H',I'.untried,q⟩
  |ret u=>obtain⟨v,σ',H',I',r,q⟩:=q;exact⟨v,σ',H',I'.untried,r,q⟩
 refine wpAny_mono (hb (X.pn++pins) (fun e s'=>∃a C t σ' H',e=.ref a∧σ'.length=σ.length∧Fly X pins σ' H' s' a C (some t)∧EX (.ref C) none H') ?_ [] s σ H D I.tried h) (fun fl s' q=>?_) fun e s' q=>?_
 ·intro pins1 σ1 H1 s1 e s' I1 hc
  obtain⟨a,C,t,H',rfl,F,q⟩:=I1.untried.flies f hc
  exact⟨a,C,t,σ1,H',rfl,by rw[F.inv.len,I.len],F,q⟩
 ·cases fl with
  |next=>exact wpAny_execs_nil (up _ _ q)
  |brk=>exact up _ _ q
  |cont=>exact up _ _ q
  |ret u=>exact up _ _ q
 obtain⟨a,C,t,σ',H',rfl,hl,F,q⟩:=q
 refine F.note f fun s3 t3 F3=>?_
 obtain⟨C',e1,xc,sub,hts⟩:=hX _ _ q
 cases e1
 obtain⟨oe,oT,Ip,hcl,back⟩:=F3.pin
 refine wpAny_handleBy_cons (codeAny_handlers_test (wpAny_mono (zK (X:=X.hnd (.ref a)) hg hm (v:=.ref S) rfl hd _ s3 σ' H' (fun v H''=>v=.ref S∧H''=H') Ip.hnd ⟨rfl,rfl⟩) (fun u s4 z=>?_) fun _ _ z=>False.elim z)) (by intro z;cases z)
 obtain⟨v,H4,I4,r4,rfl,rfl⟩:=z
 obtain rfl:u=Value.ref S:=r4
 obtain⟨he4,F4⟩:=back _ s4 I4 ((I4.unhnd I.ok).pins_of fun p hp=>I4.pin p (List.mem_append_right _ (List.mem_append_left _ hp)))
 have kin:=F4.inv.kIn
 obtain⟨hh,gg,dd,tk,os⟩:=s4
 refine zf5 kin xs sub he4 hcl ?_
 refine codeAny_handlers_suite_as ?_
 refine F4.land f fun s5 t5 F5=>?_
 refine wG (i:=i) (v:=.ref a) F5.track hN hi (.inl hk) rfl (fun s6 I6=>?_) (.inr hk)
 refine wpAny_mono (hs (.ref a) pins s6 _ _ (zem i D) I6.hnd (hts a σ' F5.na.2.1 hl)) (fun fl s7 q7=>?_) fun _ _ z=>False.elim z
 cases fl with
 |next=>obtain⟨σ7,H7,I7,q7⟩:=q7;exact kM (I7.unhnd I.ok) hN hi hk fun s8 I8=>⟨_,H7,I8,q7⟩
 |brk=>obtain⟨σ7,H7,I7,q7⟩:=q7;exact kM (I7.unhnd I.ok) hN hi hk fun s8 I8=>⟨_,H7,I8,q7⟩
 |cont=>obtain⟨σ7,H7,I7,q7⟩:=q7;exact kM (I7.unhnd I.ok) hN hi hk fun s8 I8=>⟨_,H7,I8,q7⟩
 |ret u=>obtain⟨v,σ7,H7,I7,r7,q7⟩:=q7;exact kM (I7.unhnd I.ok) hN hi hk fun s8 I8=>⟨v,_,H7,I8,r7,q7⟩
end
section
section
variable {X:Cx}
theorem zgl {st:List Stmt}:PSs X st (fun _ _ _=>False):=fun _ _ _ _ _ _ h=>h.elim
end
end
section
section
open PySem.SeqAt
open PySem.AutoSeq1 (wpAny_loadPart')
open PySem.MeetsSeq PySem.MeetsSeq2 PySem.MeetsSeq3
end
end
section
section
variable {X:Cx}{pins:List (Addr×Obj)}{σ:St}{H0:Hp}{a I S:Addr}{xs:List V}{KV:Nat→V→Prop}{bt:Nat→Nat→Bool}{key:Value}{kw:List (Str×Value)}{R:Result→Shared→Prop}
end
section
variable {X:Cx}{pins:List (Addr×Obj)}{σ:St}{H:Hp}{s:Shared}{a:Addr}{xs:List V}{KV:Nat→V→Prop}{bt:Nat→Nat→Bool}{Q:VK}
end
section
variable {X:Cx}{K:PySem.W.Frag}
end
end
section
section
variable {prog:Program}{w:World}{A:Around}{E:Value→Shared→Prop}{s:Shared}{κ:SortKind}{LT:Keyed→Keyed→Bool}{S:Keyed→Prop}
def zeH (prog:Program)(w:World)(A:Around)(E:Value→Shared→Prop)(s:Shared)(κ:SortKind)(S:Keyed→Prop)(LT:Keyed→Keyed→Bool):Prop:=
 ∀(x y:Keyed) (st:SortSt) (Q:Option Bool→SortSt→Prop),S x→S y→kindOf st=κ→Q (some (LT x y)) st→wpS (model prog w) A E s (lt' x y) Q st
theorem pq {arr:Array Keyed}{i:Nat}{x:Keyed}{st:SortSt}{Q:Keyed→SortSt→Prop}(e:arr[i]?=some x)(h:Q x st):wpS (model prog w) A E s (elem' arr i) Q st:=by
 rw[elem'_eq,e]
 exact wpS_pure h
end
end
section
section
variable {prog:Program}{w:World}{A:Around}{E:Value→Shared→Prop}{s:Shared}{κ:SortKind}{LT:Keyed→Keyed→Bool}{S:Keyed→Prop}
end
end
section
structure Ord {α:Type}(S:α→Prop)(LT:α→α→Bool):Prop where
 asym:∀x y,S x→S y→LT x y=true→LT y x=false
 trans:∀x y z,S x→S y→S z→LT y x=false→LT z y=false→LT z x=false
abbrev leO {α:Type}(LT:α→α→Bool)(x y:α):Prop:=LT y x=false
section
variable {α:Type}{S:α→Prop}{LT:α→α→Bool}{T out ra rb ra' rb':List α}{x y:α}
end
end
section
theorem zee {α:Type}{a:Array α}{i:Nat}{x:α}(e:a[i]?=some x):x∈a.toList:=by
 obtain⟨h,e⟩:=Array.getElem?_eq_some_iff.mp e
 rw[←e];simp
section
variable {S:Keyed→Prop}{LT:Keyed→Keyed→Bool}{a b out:Array Keyed}{ia ib k:Nat}{x y:Keyed}
end
structure Sg (st st':SortSt):Prop where
 kind:kindOf st'=kindOf st
 arr:arrOf st'=arrOf st
 pend:pendingOf st'=pendingOf st
 failed:failedOf st'=failedOf st
theorem Sg.set {st st':SortSt}(h:Sg st st')(g:Nat):Sg st (SortSt.mk' (kindOf st') (arrOf st') (pendingOf st') g (failedOf st')):=⟨h.kind,h.arr,h.pend,h.failed⟩
section
variable {prog:Program}{w:World}{A:Around}{E:Value→Shared→Prop}{s:Shared}{κ:SortKind}{LT:Keyed→Keyed→Bool}{S:Keyed→Prop}
end
end
section
section
variable {S:Keyed→Prop}{LT:Keyed→Keyed→Bool}{a b out:Array Keyed}{na nb k:Nat}{x y:Keyed}
end
section
variable {prog:Program}{w:World}{A:Around}{E:Value→Shared→Prop}{s:Shared}{κ:SortKind}{LT:Keyed→Keyed→Bool}{S:Keyed→Prop}
end
end
section
def SR (LT:Keyed→Keyed→Bool)(arr:Array Keyed)(lo hi:Nat):Prop:=∀i j x y,lo≤i→i<j→j<hi→arr[i]?=some x→arr[j]?=some y→leO LT x y
theorem zer {α:Type}{arr:Array α}{p q i:Nat}{x:α}(h:(arr.extract p q)[i]?=some x):arr[p+i]?=some x∧p+i<q:=by
 obtain⟨h1,e⟩:=Array.getElem?_eq_some_iff.mp h
 rw[Array.size_extract] at h1
 rw[Array.getElem_extract] at e
 exact⟨by rw[←e];exact Array.getElem?_eq_getElem _,by omega⟩
theorem SR.pw {LT:Keyed→Keyed→Bool}{arr:Array Keyed}{lo hi p q:Nat}(h:SR LT arr lo hi)(h1:lo≤p)(h2:q≤hi):(arr.extract p q).toList.Pairwise (leO LT):=by
 rw[List.pairwise_iff_getElem]
 intro i j hi hj hij
 have e1:(arr.extract p q)[i]?=some (arr.extract p q).toList[i]:=by rw[←Array.getElem?_toList];exact List.getElem?_eq_getElem hi
 have e2:(arr.extract p q)[j]?=some (arr.extract p q).toList[j]:=by rw[←Array.getElem?_toList];exact List.getElem?_eq_getElem hj
 obtain⟨g1,g2⟩:=zer e1
 obtain⟨g3,g4⟩:=zer e2
 exact h _ _ _ _ (by omega) (show p+i<p+j by omega) (by omega) g1 g3
section
variable {S:Keyed→Prop}{LT:Keyed→Keyed→Bool}
end
section
variable {prog:Program}{w:World}{A:Around}{E:Value→Shared→Prop}{s:Shared}{κ:SortKind}{LT:Keyed→Keyed→Bool}{S:Keyed→Prop}
end
end
section
structure Rn (a0 a:Array Keyed)(lo hi:Nat):Prop where
 perm:a.toList.Perm a0.toList
 out:∀i,i<lo∨hi≤i→a[i]?=a0[i]?
theorem Rn.refl (a:Array Keyed)(lo hi:Nat):Rn a a lo hi:=⟨.refl _,fun _ _=>rfl⟩
theorem Rn.size {a0 a:Array Keyed}{lo hi:Nat}(h:Rn a0 a lo hi):a.size=a0.size:=by have:=h.perm.length_eq;simpa using this
theorem Rn.all {a0 a:Array Keyed}{lo hi:Nat}{S:Keyed→Prop}(h:Rn a0 a lo hi)(hall:∀(j:Nat) (x:Keyed),a0[j]?=some x→S x):∀(j:Nat) (x:Keyed),a[j]?=some x→S x:=fun j x e=>by
 have:=h.perm.mem_iff.mp (zee e)
 rw[Array.mem_toList_iff] at this
 obtain⟨i,hi,e⟩:=Array.getElem_of_mem this
 exact hall i x (by rw[Array.getElem?_eq_getElem hi,e])
theorem Rn.mirror {a0 a:Array Keyed}{lo hi i j:Nat}(h:Rn a0 a lo hi)(h1:lo≤i)(h2:j≤hi)(h3:j≤a.size):Rn a0 (mirror a i j ((j-i)/2)) lo hi:=by
 refine⟨(Array.perm_iff_toList_perm.mp (mirror_perm _ _ _ _)).trans h.perm,fun k hk=>?_⟩
 rw[getElem?_mirror_all h3,if_neg (by omega)]
 exact h.out k hk
theorem Rn.bubble {a0 a:Array Keyed}{lo hi src d:Nat}(h:Rn a0 a lo hi)(h1:lo+d≤src)(h2:src<hi)(h3:src<a.size):Rn a0 (bubble a src d) lo hi:=by
 refine⟨(Array.perm_iff_toList_perm.mp (bubble_perm _ _ _)).trans h.perm,fun k hk=>?_⟩
 rw[getElem?_bubble h3 d (by omega),if_neg (by omega),if_neg (by omega)]
 exact h.out k hk
def ND (LT:Keyed→Keyed→Bool)(arr:Array Keyed)(lo hi:Nat):Prop:=∀i j x y,lo≤i→i<j→j<hi→arr[i]?=some x→arr[j]?=some y→leO LT y x
def AL (LT:Keyed→Keyed→Bool)(arr:Array Keyed)(lo hi:Nat):Prop:=∀i j x y,lo≤i→i<hi→lo≤j→j<hi→arr[i]?=some x→arr[j]?=some y→leO LT x y
section
variable {S:Keyed→Prop}{LT:Keyed→Keyed→Bool}{arr:Array Keyed}{lo hi n m:Nat}
theorem Ord.irr (o:Ord S LT){x:Keyed}(hx:S x):LT x x=false:=by
 cases e:LT x x with
 |false=>rfl
 |true=>rw[o.asym x x hx hx e] at e;cases e
theorem SR.one:SR LT arr lo (lo+1):=fun i j x y h1 h2 h3=>by omega
theorem SR.grow (o:Ord S LT)(hall:∀(j:Nat) (x:Keyed),arr[j]?=some x→S x){x y:Keyed}(h:SR LT arr lo (lo+n))(h1:1≤n)(ex:arr[lo+n]?=some x)(ey:arr[lo+n-1]?=some y)(e:LT x y=false):SR LT arr lo (lo+n+1):=by
 intro i j u v hi hij hj eu ev
 by_cases c:j<lo+n
 ·exact h i j u v hi hij c eu ev
 ·have:j=lo+n:=by omega
  subst this
  rw[ex] at ev;cases ev
  by_cases c2:i=lo+n-1
  ·subst c2
   rw[ey] at eu;cases eu
   exact e
  ·exact o.trans u y x (hall _ _ eu) (hall _ _ ey) (hall _ _ ex) (h i (lo+n-1) u y hi (by omega) (by omega) eu ey) e
theorem ND.grow (o:Ord S LT)(hall:∀(j:Nat) (x:Keyed),arr[j]?=some x→S x){x y:Keyed}(h:ND LT arr lo (lo+n))(h1:1≤n)(ex:arr[lo+n]?=some x)(ey:arr[lo+n-1]?=some y)(e:LT y x=false):ND LT arr lo (lo+n+1):=by
 intro i j u v hi hij hj eu ev
 by_cases c:j<lo+n
 ·exact h i j u v hi hij c eu ev
 ·have:j=lo+n:=by omega
  subst this
  rw[ex] at ev;cases ev
  by_cases c2:i=lo+n-1
  ·subst c2
   rw[ey] at eu;cases eu
   exact e
  ·exact o.trans x y u (hall _ _ ex) (hall _ _ ey) (hall _ _ eu) e (h i (lo+n-1) u y hi (by omega) (by omega) eu ey)
theorem ND.turn (h:ND LT arr lo hi)(hz:hi≤arr.size):SR LT (PyProof.Rows.mirror arr lo hi ((hi-lo)/2)) lo hi:=by
 intro i j x y h1 h2 h3 ex ey
 rw[getElem?_mirror_all hz,if_pos (by omega)] at ex ey
 exact h (lo+hi-1-j) (lo+hi-1-i) y x (by omega) (by omega) (by omega) ey ex
theorem ND.alike (h:ND LT arr lo hi)(ha:AL LT arr n hi)(hn:lo≤n)(hz:hi≤arr.size):ND LT (PyProof.Rows.mirror arr n hi ((hi-n)/2)) lo hi:=by
 intro i j x y h1 h2 h3 ex ey
 rw[getElem?_mirror_all hz] at ex ey
 by_cases ci:n≤i∧i<hi
 ·rw[if_pos ci] at ex
  rw[if_pos (by omega)] at ey
  exact ha _ _ y x (by omega) (by omega) (by omega) (by omega) ey ex
 ·rw[if_neg ci] at ex
  by_cases cj:n≤j∧j<hi
  ·rw[if_pos cj] at ey
   exact h i _ x y h1 (by omega) (by omega) ex ey
  ·rw[if_neg cj] at ey
   exact h i j x y h1 h2 h3 ex ey
theorem AL.one (o:Ord S LT)(hall:∀(j:Nat) (x:Keyed),arr[j]?=some x→S x):AL LT arr n (n+1):=fun i j x y h1 h2 h3 h4 ex ey=>by
 have:i=j:=by omega
 subst this
 rw[ex] at ey;cases ey
 exact o.irr (hall _ _ ex)
theorem AL.grow (o:Ord S LT)(hall:∀(j:Nat) (x:Keyed),arr[j]?=some x→S x){x y:Keyed}(h:AL LT arr n hi)(h1:n<hi)(ex:arr[hi]?=some x)(ey:arr[hi-1]?=some y)(e1:LT x y=false)(e2:LT y x=false):AL LT arr n (hi+1):=by
 intro i j u v i1 i2 j1 j2 eu ev
 by_cases ci:i<hi
 ·by_cases cj:j<hi
  ·exact h i j u v i1 ci j1 cj eu ev
  ·have:j=hi:=by omega
   subst this
   rw[ex] at ev;cases ev
   exact o.trans u y x (hall _ _ eu) (hall _ _ ey) (hall _ _ ex) (h i (j-1) u y i1 ci (by omega) (by omega) eu ey) e1
 ·have:i=hi:=by omega
  subst this
  rw[ex] at eu;cases eu
  by_cases cj:j<i
  ·exact o.trans x y v (hall _ _ ex) (hall _ _ ey) (hall _ _ ev) e2 (h (i-1) j y v (by omega) (by omega) j1 cj ey ev)
  ·have:j=i:=by omega
   subst this
   rw[ex] at ev;cases ev
   exact o.irr (hall _ _ ex)
end
section
variable {prog:Program}{w:World}{A:Around}{E:Value→Shared→Prop}{s:Shared}{κ:SortKind}{LT:Keyed→Keyed→Bool}{S:Keyed→Prop}
theorem qA (hl:zeH prog w A E s κ S LT){st:SortSt}{i j:Nat}{x y:Keyed}{Q:Option Bool→SortSt→Prop}(hs:kindOf st=κ)(ex:(arrOf st)[i]?=some x)(ey:(arrOf st)[j]?=some y)(sx:S x)(sy:S y)(h:Q (some (LT x y)) st):wpS (model prog w) A E s (ltAt' i j) Q st:=by
 rw[ltAt'_eq]
 refine wpS_bind (wpS_get ?_)
 exact wpS_bind (pq ex (wpS_bind (pq ey (hl x y st Q sx sy hs h))))
theorem wD (o:Ord S LT){arr:Array Keyed}{lo a nrem:Nat}{st:SortSt}{Q:Option (Option Nat)×Nat→SortSt→Prop}{F:Nat→Option (Option Nat)×Nat→StateT SortSt Sem (ForInStep (Option (Option Nat)×Nat))}(hall:∀(j:Nat) (x:Keyed),arr[j]?=some x→S x)
 (hF:∀(i n:Nat) (x y:Keyed) (Q':ForInStep (Option (Option Nat)×Nat)→SortSt→Prop),arr[lo+n]?=some x→arr[lo+n-1]?=some y→(LT x y=true→Q' (.done (none,n)) st)→(LT x y=false→Q' (.yield (none,n+1)) st)→wpS (model prog w) A E s (F i (none,n)) Q' st)
 (h1:1≤a) (h2:a≤nrem) (hz:lo+nrem≤arr.size) (sr:SR LT arr lo (lo+a))
 (h:∀n,a≤n→n≤nrem→SR LT arr lo (lo+n)→(n=nrem∨∃x y,arr[lo+n]?=some x∧arr[lo+n-1]?=some y∧LT x y=true)→Q (none,n) st):wpS (model prog w) A E s (forIn [a:nrem] (none,a) F) Q st:=by
 refine wpS_forRange (I:=fun n c st'=>st'=st∧c=(none,n)∧SR LT arr lo (lo+n)) ?_ ?_ ⟨rfl,rfl,sr⟩
 ·rintro n c st' hn1 hn2 ⟨rfl,rfl,sr⟩
  have ex:arr[lo+n]?=some (arr[lo+n]'(by omega)):=Array.getElem?_eq_getElem _
  have ey:arr[lo+n-1]?=some (arr[lo+n-1]'(by omega)):=Array.getElem?_eq_getElem _
  exact hF n n _ _ _ ex ey (fun e=>h n hn1 (by omega) sr (.inr ⟨_,_,ex,ey,e⟩)) fun e=>⟨rfl,rfl,sr.grow o hall (by omega) ex ey e⟩
 ·rintro c st' ⟨rfl,rfl,sr⟩
  have e:max a nrem=nrem:=by omega
  rw[e] at sr ⊢
  exact h nrem h2 (Nat.le_refl _) sr (.inl rfl)
theorem px (o:Ord S LT){lo n0 nrem:Nat}{st:SortSt}{a0:Array Keyed}{Q:Option (Option Nat)×Nat×Nat→SortSt→Prop}{F:Nat→Option (Option Nat)×Nat×Nat→StateT SortSt Sem (ForInStep (Option (Option Nat)×Nat×Nat))}(hall:∀(j:Nat) (x:Keyed),(arrOf st)[j]?=some x→S x)
 (hF:∀(i n q:Nat) (a:Array Keyed) (x y:Keyed) (Q':ForInStep (Option (Option Nat)×Nat×Nat)→SortSt→Prop),a[lo+n]?=some x→a[lo+n-1]?=some y→S x→S y→
   (LT x y=true→q>0→Q' (.yield (none,n+1,0)) (setArr st (PyProof.Rows.mirror a (lo+n-(q+1)) (lo+n) ((lo+n-(lo+n-(q+1)))/2))))→(LT x y=true→¬q>0→Q' (.yield (none,n+1,0)) (setArr st a))→
   (LT x y=false→LT y x=true→Q' (.done (none,n,q)) (setArr st a))→(LT x y=false→LT y x=false→Q' (.yield (none,n+1,q+1)) (setArr st a))→wpS (model prog w) A E s (F i (none,n,q)) Q' (setArr st a))
 (h1:1≤n0) (h2:n0≤nrem) (hz:lo+nrem≤(arrOf st).size) (rn:Rn (arrOf st) a0 lo (lo+nrem)) (nd:ND LT a0 lo (lo+n0))
 (h:∀n q a,Rn (arrOf st) a lo (lo+nrem)→n0≤n→n≤nrem→ND LT a lo (lo+n)→q+1≤n→AL LT a (lo+n-(q+1)) (lo+n)→Q (none,n,q) (setArr st a)):wpS (model prog w) A E s (forIn [n0:nrem] (none,n0,0) F) Q (setArr st a0):=by
 refine wpS_forRange (I:=fun n c st'=>∃q a,st'=setArr st a∧c=(none,n,q)∧Rn (arrOf st) a lo (lo+nrem)∧ND LT a lo (lo+n)∧q+1≤n∧AL LT a (lo+n-(q+1)) (lo+n)) ?_ ?_ ⟨0,a0,rfl,rfl,rn,nd,h1,by
  rw[show lo+n0=lo+n0-(0+1)+1 by omega,show lo+n0-(0+1)+1-(0+1)=lo+n0-(0+1) by omega]
  exact AL.one o (rn.all hall)⟩
 ·rintro n c st' hn1 hn2 ⟨q,a,rfl,rfl,rn,nd,hq,al⟩
  have hsz:=rn.size
  have ex:a[lo+n]?=some (a[lo+n]'(by omega)):=Array.getElem?_eq_getElem _
  have ey:a[lo+n-1]?=some (a[lo+n-1]'(by omega)):=Array.getElem?_eq_getElem _
  have ha:=rn.all hall
  have al1:∀b:Array Keyed,(∀(j:Nat) (x:Keyed),b[j]?=some x→S x)→AL LT b (lo+(n+1)-(0+1)) (lo+(n+1)):=fun b hb=>by
   rw[show lo+(n+1)-(0+1)=lo+n by omega]
   exact AL.one o hb
  refine hF n n q a _ _ _ ex ey (ha _ _ ex) (ha _ _ ey) (fun e hq0=>?_) (fun e hq0=>?_) (fun e1 e2=>h n q a rn hn1 (by omega) nd hq al) fun e1 e2=>?_
  ·have rn2:=rn.mirror (i:=lo+n-(q+1)) (j:=lo+n) (by omega) (by omega) (by omega)
   refine⟨0,_,rfl,rfl,rn2,?_,by omega,al1 _ (rn2.all hall)⟩
   have e0:=o.asym _ _ (ha _ _ ex) (ha _ _ ey) e
   have ey':a[lo+n-(q+1)]?=some (a[lo+n-(q+1)]'(by omega)):=Array.getElem?_eq_getElem _
   refine(nd.alike al (by omega) (by omega)).grow o (rn2.all hall) (by omega) (x:=a[lo+n]'(by omega)) (y:=a[lo+n-(q+1)]'(by omega)) ?_ ?_ ?_
   ·rw[getElem?_mirror_all (by omega),if_neg (by omega)];exact ex
   ·rw[getElem?_mirror_all (by omega),if_pos (by omega),show lo+n-(q+1)+(lo+n)-1-(lo+n-1)=lo+n-(q+1) by omega];exact ey'
   ·exact o.trans _ _ _ (ha _ _ ex) (ha _ _ ey) (ha _ _ ey') e0 (al _ _ _ _ (by omega) (by omega) (by omega) (by omega) ey ey')
  ·exact⟨0,a,rfl,rfl,rn,nd.grow o ha (by omega) ex ey (o.asym _ _ (ha _ _ ex) (ha _ _ ey) e),by omega,al1 _ ha⟩
  ·refine⟨q+1,a,rfl,rfl,rn,nd.grow o ha (by omega) ex ey e2,by omega,?_⟩
   have g:=al.grow o ha (by omega) ex ey e1 e2
   rw[show lo+(n+1)-(q+1+1)=lo+n-(q+1) by omega]
   exact g
 ·rintro c st' ⟨q,a,rfl,rfl,rn,nd,hq,al⟩
  have e:max n0 nrem=nrem:=by omega
  rw[e] at nd hq al ⊢
  exact h nrem q a rn h2 (Nat.le_refl _) nd hq al
theorem fu (o:Ord S LT)(hl:zeH prog w A E s κ S LT){lo nrem:Nat}{st:SortSt}{Q:Option Nat→SortSt→Prop}(hs:kindOf st=κ)(hall:∀(j:Nat) (x:Keyed),(arrOf st)[j]?=some x→S x)(h1:1≤nrem)(hz:lo+nrem≤(arrOf st).size)
 (h:∀m a,Rn (arrOf st) a lo (lo+nrem)→1≤m→m≤nrem→SR LT a lo (lo+m)→Q (some m) (setArr st a)):wpS (model prog w) A E s (countRun' lo nrem) Q st:=by
 unfold countRun'
 k_delta "countRun"
 refine wpS_bind (wD o hall (fun i n x y Q' ex ey q1 q2=>?_) (Nat.le_refl 1) h1 hz SR.one fun n hn1 hn2 sr hor=>?_)
 ·dsimp only
  refine wpS_bind (qA hl hs ex ey (hall _ _ ex) (hall _ _ ey) ?_)
  dsimp only
  cases e:LT x y with
  |true=>exact wpS_pure (q1 e)
  |false=>exact wpS_pure (q2 e)
 dsimp only
 by_cases hnn:n=nrem
 ·rw[if_pos (by simpa using hnn)]
  exact wpS_pure (h n _ (Rn.refl _ _ _) hn1 hn2 sr)
 rw[if_neg (by simpa using hnn)]
 obtain⟨x,y,ex,ey,e⟩:=hor.resolve_left hnn
 have ex1:=o.asym _ _ (hall _ _ ex) (hall _ _ ey) e
 by_cases hgt:n>1
 ·rw[if_pos hgt]
  have ea:(arrOf st)[lo]?=some ((arrOf st)[lo]'(by omega)):=Array.getElem?_eq_getElem _
  refine wpS_bind (qA hl hs ea ey (hall _ _ ea) (hall _ _ ey) ?_)
  dsimp only
  cases er:LT ((arrOf st)[lo]'(by omega)) y with
  |true=>
   rw[if_pos rfl]
   exact wpS_pure (h n _ (Rn.refl _ _ _) hn1 hn2 sr)
  |false=>
   rw[if_neg (by decide)]
   have rf:∀{x},S x→LT x x=false:=fun hx=>o.irr hx
   have al0:AL LT (arrOf st) lo (lo+n):=fun i j u v i1 i2 j1 j2 eu ev=>by
    have c1:leO LT u y:=by
     by_cases c:i=lo+n-1
     ·subst c;rw[ey] at eu;cases eu;exact rf (hall _ _ ey)
     ·exact sr i (lo+n-1) u y i1 (by omega) (by omega) eu ey
    have c2:leO LT ((arrOf st)[lo]'(by omega)) v:=by
     by_cases c:j=lo
     ·subst c;rw[ea] at ev;cases ev;exact rf (hall _ _ ea)
     ·exact sr lo j _ v (Nat.le_refl _) (by omega) j2 ea ev
    exact o.trans u _ v (hall _ _ eu) (hall _ _ ea) (hall _ _ ev) (o.trans u y _ (hall _ _ eu) (hall _ _ ey) (hall _ _ ea) c1 er) c2
   have nd0:ND LT (arrOf st) lo (lo+n):=fun i j u v i1 i2 j2 eu ev=>al0 j i v u (by omega) j2 i1 (by omega) ev eu
   have rn0:=(Rn.refl (arrOf st) lo (lo+nrem)).mirror (i:=lo) (j:=lo+n) (by omega) (by omega) (by omega)
   have nd1:ND LT (PyProof.Rows.mirror (arrOf st) lo (lo+n) ((lo+n-lo)/2)) lo (lo+n+1):=by
    refine(nd0.alike al0 (Nat.le_refl _) (by omega)).grow o (rn0.all hall) hn1 (x:=x) (y:=(arrOf st)[lo]'(by omega)) ?_ ?_ ?_
    ·rw[getElem?_mirror_all (by omega),if_neg (by omega)];exact ex
    ·rw[getElem?_mirror_all (by omega),if_pos (by omega),show lo+(lo+n)-1-(lo+n-1)=lo by omega];exact ea
    ·exact o.trans x y _ (hall _ _ ex) (hall _ _ ey) (hall _ _ ea) ex1 er
   refine wpS_bind (wpS_reverse ?_)
   refine wpS_bind (wpS_lift (wpAny_rule ⟨rfl,?_⟩))
   refine wpS_bind (px (st:=st) o hall (fun i n q a x y Q' ex ey sx sy q1 q2 q3 q4=>?_) (by omega) (by omega) hz rn0 nd1 fun m q a rn hm1 hm2 nd hq al=>?_)
   ·dsimp only
    refine wpS_bind (qA (st:=setArr st a) hl hs ex ey sx sy ?_)
    dsimp only
    cases e:LT x y with
    |true=>
     rw[if_pos rfl]
     by_cases hq:q>0
     ·rw[if_pos hq]
      exact wpS_bind (wpS_reverse (wpS_pure (q1 e hq)))
     ·rw[if_neg hq]
      exact wpS_pure (q2 e hq)
    |false=>
     rw[if_neg (by decide)]
     refine wpS_bind (qA (st:=setArr st a) hl hs ey ex sy sx ?_)
     dsimp only
     cases e':LT y x with
     |true=>exact wpS_pure (q3 e e')
     |false=>exact wpS_pure (q4 e e')
   dsimp only
   have hsz:=rn.size
   by_cases hq0:q>0
   ·rw[if_pos hq0]
    have rn2:=rn.mirror (i:=lo+m-(q+1)) (j:=lo+m) (by omega) (by omega) (by omega)
    have nd2:=nd.alike al (by omega) (by omega)
    have z2:=rn2.size
    have rn3:=rn2.mirror (i:=lo) (j:=lo+m) (by omega) (by omega) (by omega)
    refine wpS_bind (wpS_reverse ?_)
    refine wpS_bind (wpS_reverse ?_)
    refine wpS_bind (wD (st:=setArr st (PyProof.Rows.mirror (PyProof.Rows.mirror a (lo+m-(q+1)) (lo+m) ((lo+m-(lo+m-(q+1)))/2)) lo (lo+m) ((lo+m-lo)/2))) (arr:=(PyProof.Rows.mirror (PyProof.Rows.mirror a (lo+m-(q+1)) (lo+m) ((lo+m-(lo+m-(q+1)))/2)) lo (lo+m) ((lo+m-lo)/2))) o (rn3.all hall) (fun i n x y Q' ex ey q1 q2=>?_) (by omega) hm2 (by rw[rn3.size];omega) (nd2.turn (by omega)) fun n hn1 hn2 sr hor=>wpS_pure (h _ _ rn3 (by omega) hn2 sr))
    dsimp only
    refine wpS_bind (qA hl hs ex ey (rn3.all hall _ _ ex) (rn3.all hall _ _ ey) ?_)
    dsimp only
    cases e:LT x y with
    |true=>exact wpS_pure (q1 e)
    |false=>exact wpS_pure (q2 e)
   ·rw[if_neg hq0]
    have rn3:=rn.mirror (i:=lo) (j:=lo+m) (by omega) (by omega) (by omega)
    refine wpS_bind (wpS_reverse ?_)
    refine wpS_bind (wD (st:=setArr st (PyProof.Rows.mirror a lo (lo+m) ((lo+m-lo)/2))) (arr:=(PyProof.Rows.mirror a lo (lo+m) ((lo+m-lo)/2))) o (rn3.all hall) (fun i n x y Q' ex ey q1 q2=>?_) (by omega) hm2 (by rw[rn3.size];omega) (nd.turn (by omega)) fun n hn1 hn2 sr hor=>wpS_pure (h _ _ rn3 (by omega) hn2 sr))
    dsimp only
    refine wpS_bind (qA hl hs ex ey (rn3.all hall _ _ ex) (rn3.all hall _ _ ey) ?_)
    dsimp only
    cases e:LT x y with
    |true=>exact wpS_pure (q1 e)
    |false=>exact wpS_pure (q2 e)
 ·rw[if_neg hgt]
  have n1:n=1:=by omega
  subst n1
  have nd1:ND LT (arrOf st) lo (lo+1+1):=ND.grow o hall (fun i j u v h1 h2 h3=>by omega) (Nat.le_refl 1) ex ey ex1
  show wpS (model prog w) A E s _ Q (setArr st (arrOf st))
  refine wpS_bind (wpS_lift (wpAny_rule ⟨rfl,?_⟩))
  refine wpS_bind (px (st:=st) o hall (fun i n q a x y Q' ex ey sx sy q1 q2 q3 q4=>?_) (by omega) (by omega) hz (Rn.refl _ _ _) nd1 fun m q a rn hm1 hm2 nd hq al=>?_)
  ·dsimp only
   refine wpS_bind (qA (st:=setArr st a) hl hs ex ey sx sy ?_)
   dsimp only
   cases e:LT x y with
   |true=>
    rw[if_pos rfl]
    by_cases hq:q>0
    ·rw[if_pos hq]
     exact wpS_bind (wpS_reverse (wpS_pure (q1 e hq)))
    ·rw[if_neg hq]
     exact wpS_pure (q2 e hq)
   |false=>
    rw[if_neg (by decide)]
    refine wpS_bind (qA (st:=setArr st a) hl hs ey ex sy sx ?_)
    dsimp only
    cases e':LT y x with
    |true=>exact wpS_pure (q3 e e')
    |false=>exact wpS_pure (q4 e e')
  dsimp only
  have hsz:=rn.size
  by_cases hq0:q>0
  ·rw[if_pos hq0]
   have rn2:=rn.mirror (i:=lo+m-(q+1)) (j:=lo+m) (by omega) (by omega) (by omega)
   have nd2:=nd.alike al (by omega) (by omega)
   have z2:=rn2.size
   have rn3:=rn2.mirror (i:=lo) (j:=lo+m) (by omega) (by omega) (by omega)
   refine wpS_bind (wpS_reverse ?_)
   refine wpS_bind (wpS_reverse ?_)
   refine wpS_bind (wD (st:=setArr st (PyProof.Rows.mirror (PyProof.Rows.mirror a (lo+m-(q+1)) (lo+m) ((lo+m-(lo+m-(q+1)))/2)) lo (lo+m) ((lo+m-lo)/2))) (arr:=(PyProof.Rows.mirror (PyProof.Rows.mirror a (lo+m-(q+1)) (lo+m) ((lo+m-(lo+m-(q+1)))/2)) lo (lo+m) ((lo+m-lo)/2))) o (rn3.all hall) (fun i n x y Q' ex ey q1 q2=>?_) (by omega) hm2 (by rw[rn3.size];omega) (nd2.turn (by omega)) fun n hn1 hn2 sr hor=>wpS_pure (h _ _ rn3 (by omega) hn2 sr))
   dsimp only
   refine wpS_bind (qA hl hs ex ey (rn3.all hall _ _ ex) (rn3.all hall _ _ ey) ?_)
   dsimp only
   cases e:LT x y with
   |true=>exact wpS_pure (q1 e)
   |false=>exact wpS_pure (q2 e)
  ·rw[if_neg hq0]
   have rn3:=rn.mirror (i:=lo) (j:=lo+m) (by omega) (by omega) (by omega)
   refine wpS_bind (wpS_reverse ?_)
   refine wpS_bind (wD (st:=setArr st (PyProof.Rows.mirror a lo (lo+m) ((lo+m-lo)/2))) (arr:=(PyProof.Rows.mirror a lo (lo+m) ((lo+m-lo)/2))) o (rn3.all hall) (fun i n x y Q' ex ey q1 q2=>?_) (by omega) hm2 (by rw[rn3.size];omega) (nd.turn (by omega)) fun n hn1 hn2 sr hor=>wpS_pure (h _ _ rn3 (by omega) hn2 sr))
   dsimp only
   refine wpS_bind (qA hl hs ex ey (rn3.all hall _ _ ex) (rn3.all hall _ _ ey) ?_)
   dsimp only
   cases e:LT x y with
   |true=>exact wpS_pure (q1 e)
   |false=>exact wpS_pure (q2 e)
end
end
section
section
variable {prog:Program}{w:World}{A:Around}{E:Value→Shared→Prop}{s:Shared}{κ:SortKind}{LT:Keyed→Keyed→Bool}{S:Keyed→Prop}
theorem yX (o:Ord S LT)(hl:zeH prog w A E s κ S LT){lo n ok:Nat}{st:SortSt}{Q:Bool→SortSt→Prop}(hs:kindOf st=κ)(hall:∀(j:Nat) (x:Keyed),(arrOf st)[j]?=some x→S x)(hn:lo+n≤(arrOf st).size)(hok1:1≤ok)(hok:ok≤n)(sr:SR LT (arrOf st) lo (lo+ok))
 (h:∀a,Rn (arrOf st) a lo (lo+n)→SR LT a lo (lo+n)→Q true (setArr st a)):wpS (model prog w) A E s (binarySort' lo n ok) Q st:=by
 unfold binarySort'
 k_delta "binarySort"
 refine wpS_bind (wpS_mono (wpS_forRange (I:=fun k c st'=>c=(none,())∧∃a,st'=setArr st a∧Rn (arrOf st) a lo (lo+n)∧SR LT a lo (lo+k))
  (Q:=fun c st'=>c=(none,())∧∃a,st'=setArr st a∧Rn (arrOf st) a lo (lo+n)∧SR LT a lo (lo+n)) ?step ?fin ⟨rfl,arrOf st,rfl,Rn.refl _ _ _,by rw[show max ok 1=ok by omega];exact sr⟩) ?post)
 case post=>
  rintro c st' ⟨rfl,a,rfl,rn,sr⟩
  exact wpS_pure (h a rn sr)
 case fin=>
  rintro c st' ⟨rfl,a,rfl,rn,sr⟩
  rw[show max (max ok 1) n=n by omega] at sr
  exact⟨rfl,a,rfl,rn,sr⟩
 rintro k c st' hk1 hk2 ⟨rfl,a,rfl,rn,sr⟩
 dsimp only
 have hsz:=rn.size
 have ha:=rn.all hall
 have ek:a[lo+k]?=some (a[lo+k]'(by omega)):=Array.getElem?_eq_getElem _
 refine wpS_bind (wpS_mono (wpS_forRange (I:=fun x c st''=>st''=setArr st a∧∃l r,c=(none,l,r)∧l≤r∧r≤k∧r-l≤k-x∧
  (∀i u,i<l→a[lo+i]?=some u→leO LT u (a[lo+k]'(by omega)))∧(∀i u,r≤i→i<k→a[lo+i]?=some u→LT (a[lo+k]'(by omega)) u=true))
  (Q:=fun c st''=>st''=setArr st a∧∃l,c=(none,l,l)∧l≤k∧
    (∀i u,i<l→a[lo+i]?=some u→leO LT u (a[lo+k]'(by omega)))∧(∀i u,l≤i→i<k→a[lo+i]?=some u→LT (a[lo+k]'(by omega)) u=true)) ?_ ?_ ⟨rfl,0,k,rfl,by omega,by omega,by omega,fun i u hi=>by omega,fun i u h1 h2=>by omega⟩) ?_)
 ·rintro x c st'' _ hx ⟨rfl,l,r,rfl,hlr,hrk,hm,hlo,hhi⟩
  dsimp only
  by_cases hge:l≥r
  ·rw[if_pos hge]
   have:l=r:=by omega
   subst this
   exact wpS_pure ⟨rfl,l,rfl,hrk,hlo,hhi⟩
  ·rw[if_neg hge]
   have em:a[lo+(l+r)/2]?=some (a[lo+(l+r)/2]'(by omega)):=Array.getElem?_eq_getElem _
   refine wpS_bind (qA (st:=setArr st a) hl hs ek em (ha _ _ ek) (ha _ _ em) ?_)
   dsimp only
   cases e:LT (a[lo+k]'(by omega)) (a[lo+(l+r)/2]'(by omega)) with
   |true=>
    rw[if_pos rfl]
    refine wpS_pure ⟨rfl,l,(l+r)/2,rfl,by omega,by omega,by omega,hlo,fun i u h1 h2 eu=>?_⟩
    by_cases c:i=(l+r)/2
    ·subst c;rw[em] at eu;cases eu;exact e
    ·have le:=sr (lo+(l+r)/2) (lo+i) _ u (by omega) (by omega) (by omega) em eu
     cases g:LT (a[lo+k]'(by omega)) u with
     |true=>rfl
     |false=>
      have:=o.trans _ _ _ (ha _ _ em) (ha _ _ eu) (ha _ _ ek) le g
      rw[e] at this;cases this
   |false=>
    rw[if_neg (by decide)]
    refine wpS_pure ⟨rfl,(l+r)/2+1,r,rfl,by omega,by omega,by omega,fun i u h1 eu=>?_,hhi⟩
    by_cases c:i=(l+r)/2
    ·subst c;rw[em] at eu;cases eu;exact e
    ·exact o.trans u _ _ (ha _ _ eu) (ha _ _ em) (ha _ _ ek) (sr (lo+i) (lo+(l+r)/2) u _ (by omega) (by omega) (by omega) eu em) e
 ·rintro c st'' ⟨rfl,l,r,rfl,hlr,hrk,hm,hlo,hhi⟩
  have:l=r:=by omega
  subst this
  exact⟨rfl,l,rfl,hrk,hlo,hhi⟩
 ·rintro c st'' ⟨rfl,l,rfl,hlk,hlo,hhi⟩
  dsimp only
  refine wpS_bind (wpS_modify (wpS_pure ⟨rfl,bubble a (lo+k) (lo+k-(lo+l)),rfl,rn.bubble (by omega) (by omega) (by omega),?_⟩))
  intro i j u v h1 h2 h3 eu ev
  rw[getElem?_bubble (by omega) _ (by omega),show lo+k-(lo+k-(lo+l))=lo+l by omega] at eu ev
  by_cases c1:i=lo+l
  ·rw[if_pos c1] at eu
   rw[if_neg (by omega),if_pos (by omega)] at ev
   rw[ek] at eu;cases eu
   refine o.asym _ _ (ha _ _ ek) (ha _ _ ev) (hhi (j-1-lo) v (by omega) (by omega) (by rw[show lo+(j-1-lo)=j-1 by omega];exact ev))
  ·rw[if_neg c1] at eu
   by_cases c2:lo+l<i∧i≤lo+k
   ·rw[if_pos c2] at eu
    rw[if_neg (by omega),if_pos (by omega)] at ev
    exact sr _ _ u v (by omega) (by omega) (by omega) eu ev
   ·rw[if_neg c2] at eu
    by_cases c3:j=lo+l
    ·rw[if_pos c3] at ev
     rw[ek] at ev;cases ev
     exact hlo (i-lo) u (by omega) (by rw[show lo+(i-lo)=i by omega];exact eu)
    ·rw[if_neg c3] at ev
     by_cases c4:lo+l<j∧j≤lo+k
     ·rw[if_pos c4] at ev
      exact sr _ _ u v (by omega) (by omega) (by omega) eu ev
     ·rw[if_neg c4] at ev
      exact sr _ _ u v (by omega) (by omega) (by omega) eu ev
end
abbrev zdd:Type:=Nat×Nat×Nat
def Runs (LT:Keyed→Keyed→Bool)(arr:Array Keyed):List zdd→Nat→Nat→Prop
 |[],lo,hi=>lo=hi
 |(s,n,_)::r,lo,hi=>s=lo∧1≤n∧SR LT arr lo (lo+n)∧Runs LT arr r (lo+n) hi
section
variable {LT:Keyed→Keyed→Bool}{arr arr':Array Keyed}
theorem Runs.le:∀{l:List zdd}{lo hi:Nat},Runs LT arr l lo hi→lo+l.length≤hi
 |[],lo,hi,h=>by have:lo=hi:=h;simp[this]
 |(s,n,p)::r,lo,hi,h=>by have:=Runs.le h.2.2.2;have:=h.2.1;rw[List.length_cons];omega
theorem SR.keep {lo hi:Nat}(h:SR LT arr lo hi)(e:∀i,lo≤i→i<hi→arr'[i]?=arr[i]?):SR LT arr' lo hi:=fun i j x y h1 h2 h3 ex ey=>h i j x y h1 h2 h3 (by rw[←e i h1 (by omega)];exact ex) (by rw[←e j (by omega) h3];exact ey)
theorem Runs.keep:∀{l:List zdd}{lo hi:Nat},Runs LT arr l lo hi→(∀i,lo≤i→i<hi→arr'[i]?=arr[i]?)→Runs LT arr' l lo hi
 |[],lo,hi,h,_=>h
 |(s,n,p)::r,lo,hi,h,e=>by
  have:=h.2.2.2.le
  exact⟨h.1,h.2.1,h.2.2.1.keep fun i h1 h2=>e i h1 (by omega),h.2.2.2.keep fun i h1 h2=>e i (by omega) h2⟩
theorem Runs.append:∀{l m:List zdd}{lo mid hi:Nat},Runs LT arr l lo mid→Runs LT arr m mid hi→Runs LT arr (l++m) lo hi
 |[],m,lo,mid,hi,h,h'=>by have:lo=mid:=h;subst this;exact h'
 |(s,n,p)::r,m,lo,mid,hi,h,h'=>⟨h.1,h.2.1,h.2.2.1,h.2.2.2.append h'⟩
theorem Runs.split:∀{l m:List zdd}{lo hi:Nat},Runs LT arr (l++m) lo hi→∃mid,Runs LT arr l lo mid∧Runs LT arr m mid hi
 |[],m,lo,hi,h=>⟨lo,rfl,h⟩
 |(s,n,p)::r,m,lo,hi,h=>by
  obtain⟨mid,h1,h2⟩:=Runs.split (l:=r) (m:=m) h.2.2.2
  exact⟨mid,⟨h.1,h.2.1,h.2.2.1,h1⟩,h2⟩
theorem Runs.congr:∀{l m:List zdd}{lo hi:Nat},l.map (fun p=>(p.1,p.2.1))=m.map (fun p=>(p.1,p.2.1))→Runs LT arr l lo hi→Runs LT arr m lo hi
 |[],[],_,_,_,h=>h
 |[],_::_,_,_,e,_=>by simp at e
 |_::_,[],_,_,e,_=>by simp at e
 |(s,n,p)::r,(s',n',p')::r',lo,hi,e,h=>by
  simp only[List.map_cons,List.cons.injEq,Prod.mk.injEq] at e
  obtain⟨⟨rfl,rfl⟩,e⟩:=e
  exact⟨h.1,h.2.1,h.2.2.1,Runs.congr e h.2.2.2⟩
end
end
section
section
variable {prog:Program}{w:World}{A:Around}{E:Value→Shared→Prop}{s:Shared}{κ:SortKind}{LT:Keyed→Keyed→Bool}{S:Keyed→Prop}{a0:Array Keyed}
structure Sw (κ:SortKind)(LT:Keyed→Keyed→Bool)(a0:Array Keyed)(lo:Nat)(st:SortSt):Prop where
 perm:(arrOf st).toList.Perm a0.toList
 kind:kindOf st=κ
 failed:failedOf st=none
 runs:Runs LT (arrOf st) (pendingOf st).toList 0 lo
theorem Sw.size {lo:Nat}{st:SortSt}(h:Sw κ LT a0 lo st):(arrOf st).size=a0.size:=by have:=h.perm.length_eq;simpa using this
theorem Sw.all {lo:Nat}{st:SortSt}(h:Sw κ LT a0 lo st)(hall:∀(j:Nat) (x:Keyed),a0[j]?=some x→S x):∀(j:Nat) (x:Keyed),(arrOf st)[j]?=some x→S x:=Rn.all (lo:=0) (hi:=a0.size) ⟨h.perm,fun i hi=>by
 have:=h.size
 rw[Array.getElem?_eq_none (by omega),Array.getElem?_eq_none (by omega)]⟩ hall
theorem Sw.push {lo n:Nat}{st:SortSt}(sw:Sw κ LT a0 lo st)(sr:SR LT (arrOf st) lo (lo+n))(hn:1≤n):Sw κ LT a0 (lo+n) (setPending st ((pendingOf st).push (lo,n,0))):=by
 refine⟨sw.perm,sw.kind,sw.failed,?_⟩
 show Runs LT (arrOf st) ((pendingOf st).push (lo,n,0)).toList 0 (lo+n)
 rw[Array.toList_push]
 exact sw.runs.append ⟨rfl,hn,sr,rfl⟩
end
end
section
theorem dH:∀a:List Int,HT.lexLt a a=false
 |[]=>rfl
 |x::a=>by rw[HT.lexLt_cons,if_pos rfl];exact dH a
theorem zai:∀a b:List Int,HT.lexLt a b=true→HT.lexLt b a=false
 |[],[],h=>by cases h
 |[],_::_,_=>rfl
 |_::_,[],h=>by cases h
 |x::a,y::b,h=>by
  rw[HT.lexLt_cons] at h ⊢
  by_cases e:x=y
  ·rw[if_pos e] at h;rw[if_pos e.symm];exact zai a b h
  ·rw[if_neg e] at h;rw[if_neg (fun z=>e z.symm)]
   have:=of_decide_eq_true h
   exact decide_eq_false (by omega)
theorem zej:∀a b c:List Int,HT.lexLt b a=false→HT.lexLt c b=false→HT.lexLt c a=false
 |[],_,[],_,_=>rfl
 |[],[],_::_,_,_=>rfl
 |[],_::_,_::_,_,_=>rfl
 |_::_,[],_,h,_=>by cases h
 |_::_,_::_,[],_,h=>by cases h
 |x::a,y::b,z::c,h1,h2=>by
  rw[HT.lexLt_cons] at h1 h2 ⊢
  by_cases e1:y=x
  ·rw[if_pos e1] at h1
   subst e1
   by_cases e2:z=y
   ·rw[if_pos e2] at h2 ⊢
    exact zej a b c h1 h2
   ·rw[if_neg e2] at h2 ⊢
    exact h2
  ·rw[if_neg e1] at h1
   have h1:=of_decide_eq_false h1
   by_cases e2:z=y
   ·subst e2
    rw[if_neg e1]
    exact decide_eq_false h1
   ·rw[if_neg e2] at h2
    have h2:=of_decide_eq_false h2
    rw[if_neg (by omega)]
    exact decide_eq_false (by omega)
theorem zaj:∀a b:List Int,HT.lexLt a b=false→HT.lexLt b a=false→a=b
 |[],[],_,_=>rfl
 |[],_::_,h,_=>by cases h
 |_::_,[],_,h=>by cases h
 |x::a,y::b,h1,h2=>by
  rw[HT.lexLt_cons] at h1 h2
  by_cases e:x=y
  ·subst e
   rw[if_pos rfl] at h1 h2
   rw[zaj a b h1 h2]
  ·rw[if_neg e] at h1
   rw[if_neg (fun z=>e z.symm)] at h2
   have:=of_decide_eq_false h1
   have:=of_decide_eq_false h2
   omega
abbrev leC (a b:List Int):Prop:=HT.lexLt b a=false
theorem pP:∀{a b:List (List Int)},a.Perm b→a.Pairwise leC→b.Pairwise leC→a=b:=fun {a b} p ha hb=>List.Perm.eq_of_pairwise (fun x y _ _ h1 h2=>zaj x y h2 h1) ha hb p
theorem Paired.perm {α β:Type}{F:α→β→Prop}{m m':List β}(p:m'.Perm m):∀{l:List α},Paired F l m→∃l',Paired F l' m'∧l'.Perm l:=by
 induction p with
 |nil=>intro l h;exact⟨l,h,.refl _⟩
 |cons x p ih=>
  intro l h
  cases h with
  |cons r t=>
   obtain⟨l',h1,h2⟩:=ih t
   exact⟨_::l',.cons r h1,h2.cons _⟩
 |swap x y l=>
  intro l h
  cases h with
  |cons r t=>
   cases t with
   |cons r' t'=>exact⟨_,.cons r' (.cons r t'),.swap ..⟩
 |trans p q ih1 ih2=>
  intro l h
  obtain⟨l1,h1,h2⟩:=ih2 h
  obtain⟨l2,h3,h4⟩:=ih1 h1
  exact⟨l2,h3,h4.trans h2⟩
section
variable {prog:Program}{w:World}{A:Around}{E:Value→Shared→Prop}{s:Shared}{κ:SortKind}
theorem zfn {S:Value→Prop}{LT:Value→Value→Bool}(h:∀u v (C:Bool→Shared→Prop),S u→S v→C (LT u v) s→wpAny (model prog w) A (keyLt' κ u v) C (fun _ _=>False) s) :
 zeH prog w A E s κ (fun p=>S p.1) (fun p q=>LT p.1 q.1):=by
 intro x y st Q sx sy hk q
 rw[lt'_eq]
 refine wpS_bind (wpS_get ?_)
 rw[hk]
 refine wpS_bind (wpS_lift (wpAny_attempt (wpAny_mono (h x.1 y.1 (fun b s'=>s'=s∧b=LT x.1 y.1) sx sy ⟨rfl,rfl⟩) (fun b s' hb=>?_) fun _ _ hF=>hF.elim)))
 obtain⟨rfl,rfl⟩:=hb
 exact⟨rfl,wpS_pure q⟩
end
section
variable {prog:Program}{w:World}{A:Around}{E:Value→Shared→Prop}{s:Shared}{a:Addr}{vs:List Value}{LT:Value→Value→Bool}
end
end
section
theorem Paired.flip {α β:Type}{F:α→β→Prop}:∀{l:List α}{m:List β},Paired F l m→Paired (fun b a=>F a b) m l
 |_,_,.nil=>.nil
 |_,_,.cons r t=>.cons r (Paired.flip t)
theorem Paired.permL {α β:Type}{F:α→β→Prop}{l l':List α}{m:List β}(p:l'.Perm l)(h:Paired F l m):∃m',Paired F l' m'∧m'.Perm m:=by
 obtain⟨m',h1,h2⟩:=Paired.perm p (Paired.flip h)
 exact⟨m',Paired.flip h1,h2⟩
theorem Paired.memR {α β:Type}{F:α→β→Prop}:∀{l:List α}{m:List β}{y:β},Paired F l m→y∈m→∃x,x∈l∧F x y
 |_,_,y,.cons (a:=a) r t,h=>by
  rcases List.mem_cons.mp h with rfl|h
  ·exact⟨a,List.mem_cons_self ..,r⟩
  ·obtain⟨x,h1,h2⟩:=Paired.memR t h
   exact⟨x,List.mem_cons_of_mem _ h1,h2⟩
theorem Paired.memL {α β:Type}{F:α→β→Prop}{l:List α}{m:List β}{x:α}(p:Paired F l m)(h:x∈l):∃y,y∈m∧F x y:=Paired.memR (Paired.flip p) h
structure SCode (X:Cx)(VC:Hp→V→List Int→Prop)(HC:Heap→Value→List Int→Prop):Prop where
 down:∀{pins:List (Addr×Obj)}{σ:St}{H:Hp}{s:Shared}{v:V}{u:Value}{c:List Int},Inv X pins σ H s→VC H v c→RelV v u→HC s.heap u c
 uniq:∀{h:Heap}{u:Value}{c c':List Int},HC h u c→HC h u c'→c=c'
 keep:∀{h h':Heap}{u:Value}{c:List Int},(∀b o,h.get? b=some o→h'.get? b=some o)→HC h u c→HC h' u c
 asks:∀{s:Shared}{vs:List Value},(∀v∈vs,∃c,HC s.heap v c)→2≤vs.length→∃κ:SortKind,(∀Q:SortKind→Shared→Prop,Q κ s→wpAny (model X.prog X.w) X.A.in1.in1 (keyKind' vs.toArray) Q (fun _ _=>False) s)∧
  ∀u v c c' (C:Bool→Shared→Prop),HC s.heap u c→HC s.heap v c'→C (HT.lexLt c c') s→wpAny (model X.prog X.w) X.A.in1.in1 (keyLt' κ u v) C (fun _ _=>False) s
def VI (_:Hp)(v:V)(c:List Int):Prop:=∃i,v=.int i∧c=[i]
theorem zgy (i j:Int):HT.lexLt [i] [j]=decide (i<j):=by
 rw[HT.lexLt_cons,HT.lexLt_nil_nil]
 split
 ·next e=>subst e;simp
 ·rfl
def CP (h:Heap)(u:Value)(c:List Int):Prop:=∃p a b t1 t2,u=Value.ref p∧IsTup h p #[.int a t1,.int b t2]∧c=[a,b]
theorem wj {h h':Heap}{p:Addr}{its:Array Value}(k:∀b o,h.get? b=some o→h'.get? b=some o)(x:IsTup h p its):IsTup h' p its:=by
 obtain⟨o,e,r⟩:=x
 exact⟨o,k _ _ e,r⟩
theorem bw {h:Heap}:∀{vs:List Value},(∀v∈vs,∃p n t x,v=Value.ref p∧IsTup h p #[.int n t,x])→∃fs,PySem.W.KatTups h vs fs∧fs.length=vs.length∧∀f∈fs,∃(n:Int) (t:Tok),f=.int n t
 |[],_=>⟨[],.nil,rfl,fun f hf=>by simp at hf⟩
 |v::vs,hv=>by
  obtain⟨fs,h1,h2,h3⟩:=bw (vs:=vs) fun u hu=>hv u (List.mem_cons_of_mem _ hu)
  obtain⟨p,n,t,x,rfl,o,ho,hc,k,hd⟩:=hv _ List.mem_cons_self
  refine⟨.int n t::fs,.cons ho hc hd rfl h1,by simp[h2],fun f hf=>?_⟩
  rcases List.mem_cons.mp hf with rfl|hf
  ·exact⟨_,_,rfl⟩
  ·exact h3 f hf
theorem zfq {prog:Program}{w:World}{A:Around}{s:Shared}{vs:List Value}(hv:∀v∈vs,∃p n t x,v=Value.ref p∧IsTup s.heap p #[.int n t,x])(h2:2≤vs.length)(Q:SortKind→Shared→Prop)(q:Q (tuples' true) s):wpAny (model prog w) A (keyKind' vs.toArray) Q (fun _ _=>False) s:=by
 obtain⟨fs,k1,k2,k3⟩:=bw hv
 refine PySem.W.kat_kind (T:=.type "int") k1 (by omega) (fun f hf=>?_) (by rfl) ?_
 ·obtain⟨n,t,rfl⟩:=k3 f hf
  exact .now
 ·have e:(Value.type "int" != Value.type "tuple")=true:=by decide
  rw[e];exact q
def VN (K:PySem.W.Frag)(H:Hp)(v:V)(c:List Int):Prop:=∃p q n a b,v=.ref p∧SqT K H p [.int n,.ref q]∧SqT K H q [.int a,.int b]∧c=[n,a,b]
def CN (h:Heap)(u:Value)(c:List Int):Prop:=∃p q n a b t t1 t2,u=Value.ref p∧IsTup h p #[.int n t,.ref q]∧IsTup h q #[.int a t1,.int b t2]∧c=[n,a,b]
theorem zfm {prog:Program}{w:World}{A:Around}{E:Value→Shared→Prop}{s:Shared}{x y p q:Addr}{n m a1 b1 a2 b2:Int}{t u t1 t2 u1 u2:Tok}{C:Bool→Shared→Prop}(hu:A.units<cLine)(hx:IsTup s.heap x #[.int n t,.ref p])(hy:IsTup s.heap y #[.int m u,.ref q])(hp:IsTup s.heap p #[.int a1 t1,.int b1 t2])(hq:IsTup s.heap q #[.int a2 u1,.int b2 u2])
 (hC:C (HT.lexLt [n,a1,b1] [m,a2,b2]) s):wpAny (model prog w) A (keyLt' (tuples' true) (.ref x) (.ref y)) C E s:=by
 obtain⟨ox,hox,_,n',dx⟩:=hx
 obtain⟨oy,hoy,_,k',dy⟩:=hy
 rw[HT.lexLt_cons] at hC
 refine PySem.W.kat_lt hox dx hoy dy ?_
 refine PySem.W.kat_cons (wpAny_eqBool_int ?_)
 by_cases e1:n=m
 ·rw[beq_iff_eq.mpr e1]
  rw[if_pos e1] at hC
  refine PySem.W.kat_yes (PySem.W.kat_cons (pairEq (A:=A) hp hq hu prog w _ _ ?_))
  cases e2:(a1==a2&&b1==b2) with
  |true=>
   have⟨c1,c2⟩:=(Bool.and_eq_true _ _).mp e2
   have c1:=beq_iff_eq.mp c1
   have c2:=beq_iff_eq.mp c2
   subst c1;subst c2
   rw[dH] at hC
   exact PySem.W.kat_yes (PySem.W.kat_nil hC)
  |false=>
   refine PySem.W.kat_no (PySem.W.kat_one _ _ ?_)
   have i1:IntsAre (#[Value.int a1 t1,Value.int b1 t2]:Array Value).toList [a1,b1]:=.cons _ _ (.cons _ _ .nil)
   have i2:IntsAre (#[Value.int a2 u1,Value.int b2 u2]:Array Value).toList [a2,b2]:=.cons _ _ (.cons _ _ .nil)
   exact HT.lt_tupInts hp hq i1 i2 hu hC
 ·rw[beq_eq_false_iff_ne.mpr e1]
  rw[if_neg e1] at hC
  exact PySem.W.kat_no (oneLt_int hC)
theorem scN {X:Cx}{K:PySem.W.Frag}(hK:X.K=K)(hu:X.A.units+64<cLine):SCode X (VN K) CN where
 down:=fun {pins σ H s v u c} I h r=>by
  subst hK
  obtain⟨p,q,n,a,b,rfl,hp,hq,rfl⟩:=h
  cases r
  obtain⟨t1,t2,hq'⟩:=ze8 I hq
  obtain⟨its,rv,it,_⟩:=I.tuple hp
  cases rv with
  |cons r1 r2=>
   cases r2 with
   |cons r3 r4=>
    cases r4
    obtain⟨t,rfl⟩:=wm r1
    cases r3
    exact⟨p,q,n,a,b,t,t1,t2,rfl,it,hq',rfl⟩
 uniq:=fun h h'=>by
  obtain⟨p,q,n,a,b,t,t1,t2,rfl,hp,hq,rfl⟩:=h
  obtain⟨p',q',n',a',b',t',t1',t2',e,hp',hq',rfl⟩:=h'
  cases e
  have e:=xA hp hp'
  simp only[Array.mk.injEq,List.cons.injEq,Value.int.injEq,Value.ref.injEq] at e
  obtain⟨⟨e1,_⟩,e2,_⟩:=e
  subst e2
  have e:=xA hq hq'
  simp only[Array.mk.injEq,List.cons.injEq,Value.int.injEq] at e
  rw[e1,e.1.1,e.2.1.1]
 keep:=fun k h=>by
  obtain⟨p,q,n,a,b,t,t1,t2,rfl,hp,hq,rfl⟩:=h
  exact⟨p,q,n,a,b,t,t1,t2,rfl,wj k hp,wj k hq,rfl⟩
 asks:=fun {s vs} hv h2=>⟨tuples' true,zfq (fun v hv'=>by
  obtain⟨c,p,q,n,a,b,t,t1,t2,rfl,hp,_⟩:=hv v hv'
  exact⟨p,n,t,_,rfl,hp⟩) h2,fun u v c c' C hu' hv hC=>by
  obtain⟨p,q,n,a,b,t,t1,t2,rfl,hp,hq,rfl⟩:=hu'
  obtain⟨p',q',n',a',b',t',t1',t2',rfl,hp',hq',rfl⟩:=hv
  exact zfm (A:=X.A.in1.in1) (show X.A.units+1+1<cLine by omega) hp hp' hq hq' hC⟩
end
section
theorem SCode.of {X:Cx}{VC VC':Hp→V→List Int→Prop}{HC:Heap→Value→List Int→Prop}(sc:SCode X VC HC)(h:∀H v c,VC' H v c→VC H v c):SCode X VC' HC:=
 ⟨fun I c r=>sc.down I (h _ _ _ c) r,sc.uniq,sc.keep,sc.asks⟩
def VPt (H:Hp)(v:V)(c:List Int):Prop:=∃p a b,v=.ref p∧H p=some (.tup [.int a,.int b])∧c=[a,b]
def VNt (H:Hp)(v:V)(c:List Int):Prop:=∃p q n a b,v=.ref p∧H p=some (.tup [.int n,.ref q])∧H q=some (.tup [.int a,.int b])∧c=[n,a,b]
theorem zha {X:Cx}{K:PySem.W.Frag}(hK:X.K=K)(hu:X.A.units+64<cLine):SCode X VNt CN:=(scN hK hu).of fun H v c ⟨p,q,n,a,b,h1,h2,h3,h4⟩=>⟨p,q,n,a,b,h1,SqT.of h2,SqT.of h3,h4⟩
theorem bo {α β:Type}{F:α→β→Prop}:∀{l:List α}{m:List β},l.length=m.length→(∀(i:Nat) (y:β),m[i]?=some y→∃x,l[i]?=some x∧F x y)→Paired F l m
 |[],[],_,_=>.nil
 |[],_::_,h,_=>by simp at h
 |_::_,[],h,_=>by simp at h
 |a::l,b::m,h,k=>by
  refine .cons ?_ (bo (by simpa using h) fun i y e=>?_)
  ·obtain⟨x,e,r⟩:=k 0 b rfl
   simp at e
   subst e;exact r
  ·have:=k (i+1) y (by simpa using e)
   simpa using this
theorem Paired.atR {α β:Type}{F:α→β→Prop}{l:List α}{m:List β}{i:Nat}{y:β}(h:Paired F l m)(e:m[i]?=some y):∃x,l[i]?=some x∧F x y:=by
 obtain⟨x,h1,h2⟩:=Paired.at' (Paired.flip h) e
 exact⟨x,h1,h2⟩
end
section
end
section
def fT (f:Addr)(fd:FuncData):HO:=.ext fun h=>∃o,h.get? f=some o∧o.data=.func fd
def xY (c:Addr)(qual:Str):HO:=.ext fun h=>h.CodeRec (.ref c) qual
theorem FnOk.ex {P:Program}{w:World}{K:PySem.W.Frag}{mg:Str→Option Value}{base:Heap}{CX:CXT}{k:Nat}{f:Addr}{fd:FuncData}{ps:List Str}{ι:Type}{sp:ι→Sp}(F:∀i,FnOk P w K mg base CX k f fd ps (sp i)):FnOk P w K mg base CX k f fd ps (fun vs H Q E=>∃i,sp i vs H Q E):=
 ⟨fun vs H Q E ⟨i,h⟩=>(F i).len vs H Q E h,fun A outer s H args us vs Q E hr e0 hb r ⟨i,h⟩=>(F i).run A outer s H args us vs Q E hr e0 hb r h⟩
end
section
def zbs (mg:Str→Option Value)(base:Heap):Prop:=∃bm o,mg "__builtins__"=some (.ref bm)∧bm≠builtinsNs∧bm≠mainGlobals∧base.get? bm=some o∧o.cls=.type "module"∧o.dict=some builtinsNs∧o.data=.plain
abbrev bW (pos:Pos)(c:Addr):Array Value:=#[rawInt pos.line,rawInt pos.col,.ref c]
def zgV (P:Addr)(pos:Pos)(qual:Str)(fd:Addr→Value→FuncData):TE:=fun σ H Q=>
 (H P=some (.tbl #[])∧∀f c ct,H f=none→H c=none→f≠c→Q (.ref f) (upd (upd (upd H P (.tbl (bW pos c))) c (xY c qual)) f (fT f (fd c ct))))∨
 ∃c,H P=some (.tbl (bW pos c))∧H c=some (xY c qual)∧∀f ct,H f=none→Q (.ref f) (upd H f (fT f (fd c ct)))
section
variable {X:Cx}{c P:Addr}{params:Arguments}{body:Expr}{scope:Scope}{pos:Pos}
end
end
section
structure FunC (K:PySem.W.Frag)(x qual:Str)(st:Stmt)(f:Addr)(fd:FuncData)(c P:Addr):Prop where
 ex:∃(oc:Value) (od:Option Addr) (kV doc pm:Value) (an:Option Addr) (ct:Value) (osl:Array (Option Value)),
  fd=PySem.W.fnOf x qual (xB st) (qE st) (zd st) .none kV doc pm an (.ref c) ct∧K.lookup f=some ⟨oc,od,.func fd,osl⟩∧PySem.W.codeIn K (.ref c) qual=true
 kp:PySem.W.keepIn K (.ref f)=true
 hd:PySem.W.codeHdIn K c P=true
theorem FunC.ok {P0:Program}{w:World}{K:PySem.W.Frag}{mg:Str→Option Value}{base:Heap}{x qual:Str}{st:Stmt}{f:Addr}{fd:FuncData}{c P:Addr}{N ps:List Str}{k:Nat}{sp:Sp}(F:FunC K x qual st f fd c P)(S:zl N ps (zd st))(len:∀vs H Q E,sp vs H Q E→vs.length=ps.length)
 (hbody:∀(A:Around) (outer:List Env) (s:Shared) (H:Hp) (vs:List V) (Q:VK) (E:XK),Room k (A.deeper (envOfC qual (zd st) s.heap.objs.size f (.ref c)))→sp vs H Q E→
   ∃t,PSs (v9 CX0 P0 w K mg base N qual (zd st) f (.ref c) A outer s H E).nox (qE st) t∧t { nx:=fun _ H'=>Q .non H',rt:=Q } (start N vs) H):FnOk P0 w K mg base CX0 (k+1) f fd ps sp:=by
 obtain⟨oc,od,kV,doc,pm,an,ct,osl,rfl,lk,hcd⟩:=F.ex
 refine zep lk hcd S len fun A outer s H vs Q E hr hsp=>?_
 obtain⟨t,h,q⟩:=hbody A outer s H vs Q E hr hsp
 exact⟨t,h.nox,q⟩
def zhS (tabs:List Addr)(H:Hp):Prop:=∀b,H b=none∨(∃o xs,H b=some (.frz o (.lst xs)))∨(b∈tabs∧H b=some (.tbl #[]))
theorem zcN {P:Program}{w:World}{K:PySem.W.Frag}{mg mb:Str→Option Value}{k:Nat}{fa a:Addr}{fd:FuncData}{x:Str}{sp:Sp}{s₁:Shared}{vs:List Value}{ns:List Int}{tabs:List Addr}
 (KX:K.In s₁.heap) (hns:s₁.heap.Ns mainGlobals mg) (hb:s₁.heap.Ns builtinsNs mb) (hbb:∀x:Str,x≠"__name__"→mb x=bootBuiltins x) (hlim:s₁.heap.NoLimit) (hg:s₁.gens = #[]) (hB:zbs mg s₁.heap)
 (hT:∀P∈tabs,s₁.heap.get? P=some (PySem.W.tabObj #[])∧isCodeTable s₁.heap P∧K.lookup P=none)
 (ha:s₁.heap.get? a=some { cls:=.type "list",data:=.seq vs.toArray }) (hi:IntsAre vs ns) (hl:ns.length≤sizeLine) (hr:Room k callerA)
 (F:∀base:Heap,K.In base→base.Ns mainGlobals mg→zbs mg base→FnOk P w K mg base CX0 k fa fd [x] sp) (hbind:∀(s:Shared) (u:Value),BindsTo s fd ⟨[u],[]⟩ [(x,u)])
 (hsp:∀H:Hp,SqL K H a (ns.map V.int)→(∀P∈tabs,H P=some (.tbl #[]))→sp [.ref a] H (fun v _=>v=.bl true) fun _ _ _=>False) :
 codeAny (model P w) callerA (.call (.ref fa) ⟨[.ref a],[]⟩) (fun r s'=>r=.ok (.ret (.bool true))∧OldK s₁.heap s'.heap∧s'.os=s₁.os∧AllBare s'.gens) s₁:=by
 have rv:=fV hi
 have lenV:=hi.length
 have naT:a∉tabs:=fun z=>by
  have e:=(hT a z).1
  rw[ha] at e;cases e
 have core:∀H:Hp,zhS tabs H→SqL K H a (ns.map V.int)→HOk P w H s₁.heap→(∀b,H b≠none→b=a∨b∈tabs)→(H a≠none→K.lookup a=none)→(∀P∈tabs,H P=some (.tbl #[]))→
  codeAny (model P w) callerA (.call (.ref fa) ⟨[.ref a],[]⟩) (fun r s'=>r=.ok (.ret (.bool true))∧OldK s₁.heap s'.heap∧s'.os=s₁.os∧AllBare s'.gens) s₁:=by
  intro H hO hS hok hA hK hH
  have base_of:∀{b:Addr}{o:Obj},s₁.heap.get? b=some o→H b=none→(fE s₁.heap H).get? b=some o:=fun e n=>zel e n
  have noT:∀{b:Addr}{o:Obj},s₁.heap.get? b=some o→o.cls≠.none→o.cls≠.type "list"→H b=none:=fun {b o} e h1 h2=>by
   cases q:H b with
   |none=>rfl
   |some u=>
    rcases hA b (by rw[q];simp) with e'|e'
    ·subst e'
     rw[ha] at e;cases e
     exact absurd rfl h2
    ·have:=(hT b e').1
     rw[e] at this;cases this
     exact absurd rfl h1
  have noA:∀{b:Addr}{o:Obj}{es:Array DictEntry}{ep:Nat},s₁.heap.get? b=some o→o.data=.dict es ep→H b=none:=fun {b o es ep} e d=>by
   cases q:H b with
   |none=>rfl
   |some u=>
    rcases hA b (by rw[q];simp) with e'|e'
    ·subst e'
     rw[ha] at e;cases e
     cases(show Data.seq vs.toArray _=Data.dict es ep from d)
    ·have:=(hT b e').1
     rw[e] at this;cases this
     cases(show Data.fields #[]=Data.dict es ep from d)
  have nsK:∀{b:Addr}{m:Str→Option Value},s₁.heap.Ns b m→(fE s₁.heap H).Ns b m:=fun {b m} ⟨o,es,ep,e,d,r⟩=>⟨o,es,ep,base_of e (noA e d),d,r⟩
  have hKb:K.In (fE s₁.heap H):=fun b o e=>base_of (KX b o e) (by
   cases q:H b with
   |none=>rfl
   |some u=>
    rcases hA b (by rw[q];simp) with e'|e'
    ·subst e'
     rw[hK (by rw[q];simp)] at e;cases e
    ·rw[(hT b e').2.2] at e;cases e)
  have hM:Mod K mg (fE s₁.heap H):=⟨hKb,nsK hns,⟨mb,nsK hb,hbb⟩,let ⟨mc,h1,h2⟩:=hlim;⟨mc,nsK h1,h2⟩⟩
  have hBb:zbs mg (fE s₁.heap H):=by
   obtain⟨bm,o,b1,b2,b3,b4,b5,b6⟩:=hB
   exact⟨bm,o,b1,b2,b3,base_of b4 (noT b4 (by rw[b5];intro z;cases z) (by rw[b5];decide)),b5,b6⟩
  have e0:Env0 P w K mg (fE s₁.heap H) callerA [] s₁ H:=⟨rfl,hM,fun b o e=>zfg e,Nat.le_of_eq (zcQ _ _),trivial,fun b hb=>absurd (show b∈([]:List Addr) from hb) (by simp),hok,.of_eq hg⟩
  refine codeAny_mono ((F _ hKb (nsK hns) hBb).run callerA [] s₁ H ⟨[.ref a],[]⟩ [.ref a] [.ref a] _ _ hr e0 (hbind s₁ (.ref a)) (.cons rfl .nil) (hsp H hS hH)) fun r s' h=>?_
  cases r with
  |error e=>exact False.elim h
  |ok fl=>
   cases fl with
   |next=>exact False.elim h
   |brk=>exact False.elim h
   |cont=>exact False.elim h
   |ret u=>
    obtain⟨v,H',os,bare,un,hok',r',q⟩:=h
    have q':v=.bl true:=q
    subst q'
    obtain rfl:u=Value.bool true:=r'
    refine⟨rfl,⟨fun b o e=>?_,fun b o e=>un.there b o e (by simp)⟩,os,bare⟩
    rcases hO b with z|⟨ob,xs,z⟩|⟨hm,z⟩
    ·exact .inl (un.keep b o e z (by intro z;exact absurd (show b∈([]:List Addr) from z) (by simp)) (by simp))
    ·have z2:=un.frzs b ob _ z
     obtain⟨e1,_⟩:=hok b _ z
     obtain⟨e2,_⟩:=hok' b _ z2
     rw[e] at e1;cases e1
     exact .inl e2
    ·obtain⟨more,z2⟩:=un.tbls b _ z
     have e1:=(hT b hm).1
     rw[e] at e1;cases e1
     have e2:=hok' b _ z2
     exact .inr (.inl ⟨(hT b hm).2.1,rfl,#[],more,rfl,e2⟩)
 cases hk:K.lookup a with
 |some o=>
  have e:=KX a o hk
  rw[ha] at e
  cases e
  refine core (fun b=>if b∈tabs then some (.tbl #[]) else none) (fun b=>?_) (.inr ⟨_,vs.toArray,_,hk,rfl,rfl,rfl,by rw[List.size_toArray,lenV];exact hl,by simpa using rv,fun x hx=>by obtain⟨i,_,rfl⟩:=List.mem_map.mp hx;rfl⟩) (fun b u z=>?_) (fun b z=>?_) (fun z=>absurd (if_neg naT) z) fun P hP=>if_pos hP
  ·by_cases hb:b∈tabs
   ·exact .inr (.inr ⟨hb,if_pos hb⟩)
   ·exact .inl (if_neg hb)
  ·by_cases hb:b∈tabs
   ·have z':=(if_pos hb).symm.trans z
    cases z'
    exact(hT b hb).1
   ·have z':=(if_neg hb).symm.trans z
    cases z'
  ·by_cases hb:b∈tabs
   ·exact .inr hb
   ·exact absurd (if_neg hb) z
 |none=>
  refine core (fun b=>if b=a then some (.frz { cls:=.type "list",data:=.seq vs.toArray } (.lst (ns.map V.int))) else if b∈tabs then some (.tbl #[]) else none) (fun b=>?_) (.inl (.inr ⟨{ cls:=.type "list",data:=.seq vs.toArray },if_pos rfl⟩)) (fun b u z=>?_) (fun b z=>?_) (fun _=>hk) fun P hP=>?_
  ·by_cases hb:b=a
   ·exact .inr (.inl ⟨_,_,if_pos hb⟩)
   ·by_cases hb2:b∈tabs
    ·exact .inr (.inr ⟨hb2,(if_neg hb).trans (if_pos hb2)⟩)
    ·exact .inl ((if_neg hb).trans (if_neg hb2))
  ·by_cases hb:b=a
   ·have z':=(if_pos hb).symm.trans z
    cases z'
    subst hb
    exact⟨ha,by rw[List.length_map];exact hl,vs,_,rv,ha⟩
   ·by_cases hb2:b∈tabs
    ·have z':=((if_neg hb).trans (if_pos hb2)).symm.trans z
     cases z'
     exact(hT b hb2).1
    ·have z':=((if_neg hb).trans (if_neg hb2)).symm.trans z
     cases z'
  ·by_cases hb:b=a
   ·exact .inl hb
   ·by_cases hb2:b∈tabs
    ·exact .inr hb2
    ·exact absurd ((if_neg hb).trans (if_neg hb2)) z
  ·have n:P≠a:=fun z=>naT (z▸hP)
   exact(if_neg n).trans (if_pos hP)
theorem walk_ofT {l:PySem.W.OpenLaw}{n k:Nat}{q:Program}{loose:List Str}{XP:(Str→Option Value)→Heap→Prop}{YP:World→Heap→Prop}{d:DefRec}{K:Params→PySem.W.Frag}{sp:World→List Addr→Sp}{x:Str}{ts:List Addr}
 (hn:l.most=some n) (hn2:n≤sizeLine) (hdf:d.params.defaults=[]) (hr:Room k callerA)
 (hY:∀(w:World) (h:Heap),YP w h→(K w.params).In h∧∀P∈ts,h.get? P=some (PySem.W.tabObj #[]))
 (F:∀(w:World) (mg:Str→Option Value) (fa:Addr) (h:Heap),(K w.params).In h→h.Ns mainGlobals mg→mg d.name=some (.ref fa)→
   ∃(fd:FuncData) (tabs:List Addr),(∀P∈tabs,P∈ts∧(K w.params).lookup P=none∧∃c,PySem.W.codeHdIn (K w.params) c P=true)∧(∀(s:Shared) (u:Value),BindsTo s fd ⟨[u],[]⟩ [(x,u)])∧
    (∀base:Heap,(K w.params).In base→base.Ns mainGlobals mg→zbs mg base→FnOk l.prog w (K w.params) mg base CX0 k fa fd [x] (sp w tabs))∧
    ∀(H:Hp) (a:Addr) (ns:List Int),ns.length≤n→SqL (K w.params) H a (ns.map V.int)→(∀P∈tabs,H P=some (.tbl #[]))→sp w tabs [.ref a] H (fun v _=>v=.bl true) fun _ _ _=>False) :
 PySem.W.WalkO q loose XP YP l.row.toRowW d [] (fun f vs=>PySem.call f vs):=by
 refine Att.attach_call hn hdf fun w s₀ s₁ mg mb fa o pm cd doc a vs ns G Y ho hd hcd hmg hobj hints hlen hg=>?_
 obtain⟨KX,TX⟩:=hY w _ Y
 obtain⟨fd,tabs,hT,hb,hF,hsp⟩:=F w mg fa _ KX G.T.g hmg
 obtain⟨bm,ob,b1,b2,b3,b4,b5,b6⟩:=G.T.bmain
 have hbG:bm≠mainGlobals:=fun q=>by
  obtain⟨o,es,ep,e,hd,_⟩:=G.T.g
  rw[q,e] at b3;cases b3;rw[hd] at b6;cases b6
 refine zcN (tabs:=tabs) KX G.T.g G.T.b G.T.builtins G.T.nolimit hg ⟨bm,ob,b1,b2,hbG,b3,b4,b5,b6⟩ (fun P hP=>?_) hobj hints (Nat.le_trans hlen hn2) hr hF hb fun H hS hH=>hsp H a ns hlen hS hH
 obtain⟨h1,h2,c,h3⟩:=hT P hP
 have e:=TX P h1
 exact⟨e,((PySem.W.codeHd_of_K KX h3).tab e).isCodeTable,h2⟩
end
section
theorem zbv:∀{ws:List Str}{its:List Value},Vals (ws.map V.str) its→∃l:List (Str×Tok),its=strValues l∧l.map (·.1)=ws
 |[],_,.nil=>⟨[],rfl,rfl⟩
 |w::ws,_,.cons r t=>by
  obtain⟨l,rfl,rfl⟩:=zbv t
  obtain⟨k,rfl⟩:=r
  exact⟨(w,k)::l,rfl,rfl⟩
theorem fU:∀(l:List (Str×Tok)),Vals ((l.map (·.1)).map V.str) (strValues l)
 |[]=>.nil
 |(w,k)::l=>.cons ⟨k,rfl⟩ (fU l)
section
variable {X:Cx}
def rJoin:V→List V→Hp→VK→Prop:=fun x vs H Q=>∃(sep:Str) (p:Addr) (ws:List Str),x=.str sep∧vs=[.ref p]∧H p=some (.lst (ws.map V.str))∧(ws.map (·.length)).sum+ws.length*sep.length≤sizeLine∧Q (.str (Str.join sep ws)) H
theorem zbX:MtM X "str.join" rJoin:=by
 intro pins s σ H x vs v us Q I rx rv h
 obtain⟨sep,p,ws,rfl,rfl,hp,hz,q⟩:=h
 obtain⟨t,rfl⟩:=rx
 obtain⟨u,rfl,ru⟩:=rv.one
 obtain rfl:u=Value.ref p:=ru
 obtain⟨z,its,n,r,hl,e⟩:=I.lstM hp
 obtain⟨l,rfl,hw⟩:=zbv r
 refine SC.join (l:=l) (texts:=ws) ⟨_,e,rfl,_,rfl⟩ hw ?_ fun t' k=>?_
 ·unfold JoinOk
  rw[Bool.not_eq_true',StrLaws.joinTotal]
  unfold Builtin.Str.tooLong
  exact decide_eq_false (by omega)
 ·refine⟨.str (Str.join sep ws),H,I.tok _,⟨t',?_⟩,q⟩
  show Value.str (Builtin.Str.glued sep ws) t'=_
  rw[StrLaws.glued_eq_join]
theorem wg (sep:Str)(h1:1≤sep.length):∀ws:List Str,ws.length≤(Str.join sep ws).length+1
 |[]=>by simp
 |[w]=>by simp
 |w::y::r=>by
  have e:Str.join sep (w::y::r)=w++sep++Str.join sep (y::r):=rfl
  have ih:=wg sep h1 (y::r)
  rw[e,Str.length_append,Str.length_append]
  simp only[List.length_cons] at ih ⊢
  omega
def zgj:V→List V→Hp→VK→Prop:=fun x vs H Q=>∃(z y:Str),x=.str z∧vs=[.str y]∧1≤y.length∧z.length≤1000000∧∀p,H p=none→Q (.ref p) (upd H p (.lst ((Txt.split z y).map V.str)))
theorem zae:MtM X "str.split" zgj:=by
 intro pins s σ H x vs v us Q I rx rv h
 obtain⟨z,y,rfl,rfl,hy,hz,q⟩:=h
 obtain⟨t,rfl⟩:=rx
 obtain⟨w,rfl,ru⟩:=rv.one
 obtain⟨u,rfl⟩:=ru
 have hsl:sizeLine=16777216:=sizeLine_eq
 have hy0:(y.length==0)=false:=by rw[beq_eq_false_iff_ne];omega
 have hcnt:(Txt.split z y).length≤z.length+1:=by
  have:=wg y hy (Txt.split z y)
  rw[StrLaws.join_split] at this
  exact this
 have fin:∀(l:List (Str×Tok)) (k:Nat),l.map (·.1)=Txt.split z y→EP X pins σ Q (.ref s.heap.objs.size) { s with heap:=s.heap.push { cls:=.type "list",data:=.seq (strValues l).toArray },toks:=k }:=by
  intro l k e
  have hv:Vals ((Txt.split z y).map V.str) (strValues l):=by rw[←e];exact fU l
  exact⟨.ref s.heap.objs.size,_,I.lnew hv (by rw[List.length_map];omega),rfl,q _ I.fresh⟩
 cases h1:(decide (z.length<y.length)||decide (Builtin.Str.strKind z<Builtin.Str.strKind y))
 ·cases hf:(Builtin.Str.occurrences z y 0 z.length (z.length+1)).isEmpty
  ·have es:Txt.split z y=Builtin.Str.partsBetween z (Builtin.Str.occurrences z y 0 z.length (z.length+1)) y.length:=(if_neg (ne_true_of_eq_false h1)).trans (if_neg (ne_true_of_eq_false hf))
   refine call_meets F.slot_str_split (typeIs_str _ _ _) F.entry_str_split (F.args_str_split_2 _ _) (meets_str_split_sep z y t u h1 hy0 hf (by omega) (by rw[←es];omega)) ?_
   show wants _ _ _ { s with toks:=_,heap:=s.heap.push { cls:=.type "list",data:=.seq (strsFrom s.toks (Builtin.Str.partsBetween z (Builtin.Str.occurrences z y 0 z.length (z.length+1)) y.length)).toArray } }
   rw[strsFrom_eq]
   exact fin (numbered s.toks _) _ ((numbered_texts _ _).trans es.symm)
  ·exact call_meets F.slot_str_split (typeIs_str _ _ _) F.entry_str_split (F.args_str_split_2 _ _) (meets_str_split_not_found z y t u h1 hy0 hf)
    (fin [(z,t)] _ ((if_neg (ne_true_of_eq_false h1)).trans (if_pos hf)).symm)
 ·exact call_meets F.slot_str_split (typeIs_str _ _ _) F.entry_str_split (F.args_str_split_2 _ _) (meets_str_split_cannot_occur z y t u h1)
   (fin [(z,t)] _ (if_pos h1).symm)
def zib:V→List V→Hp→VK→Prop:=fun x vs H Q=>∃(z y:Str),x=.str z∧vs=[.str y]∧z.length≤sizeLine∧Q (.str (Txt.removeprefix z y)) H
theorem vH:MtM X "str.removeprefix" zib:=by
 intro pins s σ H x vs v us Q I rx rv h
 obtain⟨z,y,rfl,rfl,hz,q⟩:=h
 obtain⟨t,rfl⟩:=rx
 obtain⟨w,rfl,ru⟩:=rv.one
 obtain⟨u,rfl⟩:=ru
 exact SC.removeprefix (fun t' k=>⟨.str _,H,I.tok _,⟨t',rfl⟩,q⟩) hz
theorem fH:CallR X (.type "int") (fun xs H Q=>∃(x:Str) (n:Int),xs=[.str x]∧PySem.intText? x=some n∧x.length≤640∧Q (.int n) H):=by
 intro pins s σ H xs us Q I r h
 obtain⟨x,n,rfl,hn,hl,q⟩:=h
 obtain⟨u,rfl,t,rfl⟩:=vals1 r
 exact PySem.W.KIN.call_text hn hl ⟨.int n,H,I.tok _,⟨_,rfl⟩,q⟩
def zii:List V→Hp→VK→Prop:=fun xs H Q=>∃(p:Addr) (bs:List Bool),xs=[.ref p]∧H p=some (.lst (bs.map V.bl))∧Q (.bl (bs.all id)) H
theorem range_all:∀(bs:List Bool),(List.range bs.length).all (fun i=>bs.getD i false)=bs.all id:=by
 intro bs
 rw[Bool.eq_iff_iff,List.all_eq_true,List.all_eq_true]
 constructor
 ·intro h b hb
  obtain⟨i,hi,e⟩:=List.getElem_of_mem hb
  have:=h i (List.mem_range.mpr hi)
  simpa[List.getD,List.getElem?_eq_getElem hi,e] using this
 ·intro h i hi
  have hi':=List.mem_range.mp hi
  have:=h _ (List.getElem_mem hi')
  simpa[List.getD,List.getElem?_eq_getElem hi'] using this
theorem zc5 {bs:List Bool}{its:List Value}(r:Vals (bs.map V.bl) its){i:Nat}{v:Value}(e:its.toArray[i]?=some v):v=.bool (bs.getD i false):=by
 have e':its[i]?=some v:=by simpa using e
 have hi:i<its.length:=(List.getElem?_eq_some_iff.mp e').1
 have hl:=r.length
 rw[List.length_map] at hl
 have hx:(bs.map V.bl)[i]?=some (V.bl (bs.getD i false)):=by
  rw[List.getElem?_map,List.getElem?_eq_getElem (show i<bs.length by omega)]
  simp[List.getD,List.getElem?_eq_getElem (show i<bs.length by omega)]
 obtain⟨u,hu,ru⟩:=r.get hx
 rw[e'] at hu
 cases hu
 exact ru
theorem zas (hc:X.calm=true):CallR X (.builtin "all") zii:=by
 intro pins s σ H xs us Q I r h
 obtain⟨p,bs,rfl,hp,q⟩:=h
 obtain⟨u,rfl,ru⟩:=vals1 r
 obtain rfl:u=Value.ref p:=ru
 obtain⟨z,its,n,rv,hl,e⟩:=I.lstM hp
 rw[List.length_map] at hl
 have hlt:=Heap.lt_size e
 have il:s.heap.IsList p its.toArray:=⟨_,e,rfl,_,rfl⟩
 refine call_all_walk (wpAny_pyIter_list il ?_)
 refine⟨_,_,_,_,_,_,fun i=>bs.getD i false,rfl,Walks.list (A:=X.A.in1) (I.ok.hd hc) _ p (Nat.ne_of_lt hlt) its.toArray,⟨⟨_,Heap.get?_push_size _ rfl,rfl,rfl⟩,il.at fun o e=>Heap.get?_push_of_some _ e⟩,?_,fun h' tk k=>?_⟩
 ·intro i v s Q E hP hQ
  rw[zc5 rv hP]
  exact wpAny_truthy_bool hQ
 ·refine⟨.bl (bs.all id),H,I.kept fun c o e=>k c o (by simp only[List.mem_singleton];exact Nat.ne_of_lt (Heap.lt_size e)) (Heap.get?_push_of_some _ e),?_,q⟩
  show Value.bool _=Value.bool _
  rw[List.size_toArray,←hl,range_all]
def Its (z:Str):It:=⟨fun i _=>i<z.cps.size,fun i H x H'=>H'=H∧∃c,z.cps[i]?=some c∧x=.str ⟨#[c]⟩,fun i _=>z.cps.size≤i⟩
theorem pF {P:Program}{w:World}{K:PySem.W.Frag}{tg:Expr}{it:Addr}{z:Str}{t:Tok}{ty:String}
 (hn:["enumerate","zip","dict_itemiterator","dict_reverseitemiterator","odict_iterator","itertools.zip_longest","itertools.pairwise"].contains ty=false)
 (W:∀A':Around,A'.handled=none→Walks P w A' it [it] [it] z.cps.size (SignAt z) (fun i h=>h.IsStrIter it ty z t i))
 (hslf:∀(A:Around) (i:Nat) (s:Shared) (Q:Value→Shared→Prop) (E:Value→Shared→Prop),s.heap.IsStrIter it ty z t i→Q (.ref it) s→wpAny (model P w) A (pyIter (.ref it)) Q E s) :
 Turn P w K tg (Its z) [it] it (fun i h=>i≤z.cps.size∧h.IsStrIter it ty z t i) where
 mem:=by simp
 obj:=fun i h st b hb=>by
  have e:b=it:=by simpa using hb
  subst e
  obtain⟨_,o,e,c,d⟩:=st
  exact⟨o,e,fun v z=>by rw[d] at z;cases z⟩
 keep:=fun i h h' st k=>⟨st.1,by obtain⟨_,o,e,r⟩:=st;exact⟨o,k it (by simp) o e,r⟩⟩
 item:=by
  intro X hP hw hK hc i pins s σ H E I hf st hg
  subst hP hw hK
  obtain⟨f0,f1,f2,f3,f4,f5⟩:=hf it (by simp)
  refine(W X.A (I.ok.hd hc)).item i s _ _ hg st.2 fun v h' tk hv st' kk=>?_
  obtain⟨c,u,hcx,rfl⟩:=hv
  have I1:Inv X pins σ H { s with heap:=h',toks:=tk }:=I.turned (fun b o hb e=>kk b o (by simpa using hb) e) f0 f1 f3 f4 f5
  obtain⟨o,e,c',d⟩:=id st'
  exact⟨_,rfl,zb3 (s:={ s with heap:=h',toks:=tk }) e c' d hn ⟨.str ⟨#[c]⟩,H,I1,⟨u,rfl⟩,⟨rfl,c,hcx,rfl⟩,⟨hg,st'⟩,fun b hb=>(hf b hb).1⟩⟩
 done:=by
  intro X hP hw hK hc i pins s σ H E I hf st hg
  subst hP hw hK
  obtain⟨f0,f1,f2,f3,f4,f5⟩:=hf it (by simp)
  have e:i=z.cps.size:=Nat.le_antisymm st.1 hg
  subst e
  exact(W X.A (I.ok.hd hc)).done s _ _ st.2 fun h' tk kk=>⟨rfl,I.turned (t':=tk) (fun b o hb e=>kk b o (by simpa using hb) e) f0 f1 f3 f4 f5⟩
 self:=fun A i s Q E st h=>hslf A i s Q E st.2 h
def zio (te:TE):TI:=fun σ H R=>te σ H fun x H1=>∃z,x=.str z∧R (Its z) H1
theorem zdK {tg o:Expr}{to:TE}(ho:PE X o to):PI X tg o (zio to):=by
 intro pins s σ H R I h
 refine thn (ho pins s σ H _ I h) fun v s1 ⟨x,H1,I1,r1,z,ex,q1⟩=>?_
 subst ex
 obtain⟨t,rfl⟩:=r1
 have fp:∀b∈[s1.heap.objs.size],qa X pins H1 b:=fun b hb=>by
  have e:=List.mem_singleton.mp hb
  subst e
  exact I1.fpOk (Nat.le_refl _) (I1.hok.fresh (Nat.le_refl _))
 cases ha:z.cps.all (·<128)
 ·exact wpAny_pyIter_wide ha ⟨_,[_],_,Its z,H1,rfl,I1.kept (t':=s1.toks) fun b o e=>Heap.get?_push_of_some _ e,pF (ty:="str_iterator") (by decide) (fun A' hA=>Walks.strWide hA _ z t) (fun _ _ _ _ _ st h=>wpAny_pyIter_striter_wide st h),⟨Nat.zero_le _,_,Heap.get?_push_size _ rfl,rfl,rfl⟩,fp,q1⟩
 ·exact wpAny_pyIter_ascii ha ⟨_,[_],_,Its z,H1,rfl,I1.kept (t':=s1.toks) fun b o e=>Heap.get?_push_of_some _ e,pF (ty:="str_ascii_iterator") (by decide) (fun A' hA=>Walks.strAscii hA _ z t) (fun _ _ _ _ _ st h=>wpAny_pyIter_striter_ascii st h),⟨Nat.zero_le _,_,Heap.get?_push_size _ rfl,rfl,rfl⟩,fp,q1⟩
theorem pA {z:Str}{g:TG}{t:TT}{b:TB}{N:St→Hp→Prop}{σ:St}{H:Hp}(Pv:Nat→St→Hp→Prop)(h0:Pv 0 σ H)
 (hs:∀i c σ H,z.cps[i]?=some c→Pv i σ H→g (.str ⟨#[c]⟩) σ H fun σ2 H2=>t σ2 H2 fun k H3=>if k=true then b σ2 H3 (Pv (i+1)) else Pv (i+1) σ2 H3) (hd:∀σ H,Pv z.cps.size σ H→N σ H):vO (Its z) g t b N σ H:=by
 refine⟨fun i m σ H=>m=z.cps.size-i∧i≤z.cps.size∧Pv i σ H,⟨_,rfl,Nat.zero_le _,h0⟩,?_⟩
 rintro i m σ H ⟨rfl,hi,p⟩
 by_cases hlt:i<z.cps.size
 ·refine .inr ⟨hlt,Pv (i+1),fun σ' H' p'=>⟨_,by omega,rfl,hlt,p'⟩,fun v H' y=>?_⟩
  obtain⟨rfl,c,hc,rfl⟩:=y
  exact hs i c σ _ hc p
 ·have e:i=z.cps.size:=by omega
  subst e
  exact .inl ⟨Nat.le_refl _,hd σ H p⟩
end
end
section
def dig (m:Nat):List Nat:=(Nat.toDigits 10 m).map Char.toNat
def zd9 (n:Int):List Nat:=if n<0 then 45::dig n.natAbs else dig n.natAbs
def qT (n:Int):Str:=Str.ofString (toString n)
theorem zd7 (n:Int):(qT n).cps.toList=zd9 n:=by
 unfold qT zd9 dig
 rw[signs_ofString,Int.toString_eq_repr,Int.repr_eq_if]
 by_cases h:0≤n
 ·rw[if_pos h,if_neg (by omega),Nat.toList_repr]
  congr 2
  omega
 ·rw[if_neg h,if_pos (by omega)]
  rw[String.toList_append,List.map_append,Nat.toList_repr]
  have e:n.natAbs=(-n).toNat:=by omega
  rw[e]
  rfl
theorem zfv {m k:Nat}(hk:1≤k)(h:m<10^k):(dig m).length≤k:=by
 unfold dig
 rw[List.length_map]
 exact toDigits_len_pow (by decide) hk h
def xF (l:List Nat):List Nat:=match l with
 |45::r=>r
 |l=>l
def qD (l:List Nat):Bool:=!(xF l).isEmpty&&(xF l).all (fun c=>decide (48≤c∧c≤57))&&(l==[48]||(xF l).head? != some 48)
theorem zd8 {n:Int}{k:Nat}(hk:1≤k)(h:n.natAbs<10^k):(zd9 n).length≤k+1:=by
 have:=zfv hk h
 unfold zd9
 split
 ·rw[List.length_cons];omega
 ·omega
theorem jy {n:Int}{k:Nat}(hk:1≤k)(h:n.natAbs<10^k):(qT n).length≤k+1:=by
 have e:(qT n).length=(zd9 n).length:=by rw[←zd7];simp[Str.length]
 rw[e]
 exact zd8 hk h
def blank:Str:=" "
theorem blank_eq:blank=⟨#[32]⟩:=by decide
def wR:List (List Nat)→List Nat
 |[]=>[]
 |[w]=>w
 |w::y::r=>w++32::wR (y::r)
theorem zal:∀ws:List Str,(Str.join blank ws).cps.toList=wR (ws.map (·.cps.toList))
 |[]=>rfl
 |[w]=>rfl
 |w::y::r=>by
  have e:Str.join blank (w::y::r)=w++blank++Str.join blank (y::r):=rfl
  have e2:blank.cps.toList=[32]:=by decide
  rw[e,PySem.W.KT.app_list,PySem.W.KT.app_list,e2,zal (y::r)]
  simp[wR]
def shown (ns:List Int):Str:=Str.join blank (ns.map qT)
theorem zeQ {ns:List Int}(hb:∀n∈ns,n.natAbs<10^15):((ns.map qT).map (·.length)).sum≤ns.length*16:=by
 induction ns with
 |nil=>simp
 |cons a r ih=>
  have h1:=jy (k:=15) (by decide) (hb a (List.mem_cons_self ..))
  have h2:=ih fun n hn=>hb n (List.mem_cons_of_mem _ hn)
  simp only[List.map_cons,List.sum_cons,List.length_cons]
  omega
theorem gh (z:Str):(Txt.removeprefix z ⟨#[45]⟩).cps.toList=xF z.cps.toList:=by
 have key:∀l:List Nat,(Txt.removeprefix ⟨l.toArray⟩ ⟨#[45]⟩).cps.toList=xF l:=by
  intro l
  rw[StrLaws.removeprefix_eq]
  rw[StrLaws.subAt_eq]
  have h1:(⟨#[45]⟩:Str).length=1:=rfl
  have h2:(⟨l.toArray⟩:Str).length=l.length:=by simp[Str.length]
  rw[h1,h2]
  cases l with
  |nil=>rfl
  |cons a r=>
   by_cases ha:a=45
   ·subst ha
    rw[if_pos (by simp)]
    simp[xF]
   ·rw[if_neg (by simp[ha])]
    unfold xF
    split
    ·rename_i r2 e2
     cases e2
     exact absurd rfl ha
    ·rfl
 have:=key z.cps.toList
 simpa using this
end
section
section
variable {X:Cx}
def zia:V→Option Int→Option Int→Hp→VK→Prop:=fun x lo hi H Q=>∃z,x=.str z∧z.length≤sizeLine∧Q (.str (StrLaws.sliceText z lo hi)) H
theorem part_of {v:Value}{o:Option Int}(h:IsPart v o):∃l:Option (Int×Tok),v=partValue l∧l.map (·.1)=o:=by
 cases h with
 |none=>exact⟨none,rfl,rfl⟩
 |int i t=>exact⟨some (i,t),rfl,rfl⟩
theorem zdy:SlR X zia:=by
 intro pins s σ H x v vl vu lo hi sl Q I rx hs pl pu h
 obtain⟨z,rfl,hz,q⟩:=h
 obtain⟨t,rfl⟩:=rx
 obtain⟨l,rfl,rfl⟩:=part_of pl
 obtain⟨u,rfl,rfl⟩:=part_of pu
 refine⟨"str",_,F.slot_str_getitem.lookup,typeIs_str _ _ _,?_⟩
 refine wpAny_getItem_str_slice (l:=l) (u:=u) (st:=none) hs rfl (post_val_or_str ⟨Nat.le_trans (Txt.slice_le z _ _) hz,fun t' k=>⟨.str (StrLaws.sliceText z (l.map (·.1)) (u.map (·.1))),H,I.tok _,⟨t',rfl⟩,q⟩⟩)
end
end
section
section
variable {X:Cx}
end
end
end L2
namespace PySem
open Builtin
end PySem
namespace PySem
open Builtin PySem.AutoSeq1
end PySem
namespace L2
open PySem PySem.Spec PyProof.Rows
section
end
section
section
variable {X:Cx}{pins:List (Addr×Obj)}{σ:St}{H0:Hp}{f a kS:Addr}{xs:List V}{cs:List (List Int)}{VC:Hp→V→List Int→Prop}{HC:Heap→Value→List Int→Prop}{e1:Nat}{E:Value→Shared→Prop}
end
end
section
section
variable {X:Cx}{pins:List (Addr×Obj)}{σ:St}{H0:Hp}{f a kS:Addr}{xs:List V}{cs:List (List Int)}{VC:Hp→V→List Int→Prop}{HC:Heap→Value→List Int→Prop}{e1:Nat}{E:Value→Shared→Prop}
end
end
section
abbrev Cx.lam (X:Cx)(A:Around)(N:List Str)(qual:Str)(scope:Scope)(cl:List (Str×Addr))(f c:Addr)(s:Shared)(H:Hp):Cx:=
 { X with A:=A.deeper (PySem.W.envX qual scope s.heap.objs.size f (.ref c) cl),N:=N,s₀:=s,H₀:=H,env:=PySem.W.envX qual scope s.heap.objs.size f (.ref c) cl,outer:=X.stack,stack:=PySem.W.envX qual scope s.heap.objs.size f (.ref c) cl::X.stack,ex:=[],fn:=fun _=>false,calm:=true,pn:=[],xe:=fun _ _=>False }
section
variable {X:Cx}{A:Around}{y:Str}{Nc:List Str}{cap:List (Option Nat)}{qual:Str}{scope:Scope}{cl:List (Str×Addr)}{f c:Addr}{s:Shared}{H:Hp}{pins:List (Addr×Obj)}{σ:St}
theorem zgA {h1:Heap}{m:Str→Option Value}{tk:Nat}{v:V}{u:Value}(I:Inv X pins σ H s)(ok:yW X.N X.env.scope Nc cap scope)
 (cl1:∀x c,cl.lookup x=some c→X.env.cells.lookup x=some c) (cl2:∀x∈scope.names,x.2=.free→∃c,cl.lookup x.1=some c)
 (e0:Env0 X.prog X.w X.K X.mg X.base A X.stack s H) (hd:A.handled=none) (hy:scope.names.lookup y=some .local) (rv:RelV v u) (hn:h1.Ns s.heap.objs.size m) (hm:m y=some u) (hk:∀b o,s.heap.get? b=some o→h1.get? b=some o) :
 Inv (X.lam A (y::Nc) qual scope cl f c s H) [] (some v::vP cap σ) H { s with heap:=h1,toks:=tk }:=by
 have cellK:∀x c,cl.lookup x=some c→∃v,h1.IsCell c v:=fun x c e=>by
  obtain⟨v,o,ho,hd⟩:=I.cell x c (cl1 x c e)
  exact⟨v,o,hk c o ho,hd⟩
 have fr:H s.heap.objs.size=none:=I.hok.fresh (Nat.le_refl _)
 have key:∀(x:Str) (k:NameKind) (l:List (Str×NameKind)),l.lookup x=some k→(x,k)∈l:=fun x k l z=>PySem.mem_of_lookup z
 refine⟨⟨e0.mod,ok.kind,rfl,rfl,Nat.le_refl _,fun x y c e1 e2=>I.ok.inj x y c (cl1 _ _ e1) (cl1 _ _ e2),fun x hx=>?_,(fun x c z=>nomatch z),fun _=>hd,Around.frames_deeper e0.frames,.inr ⟨rfl,rfl⟩,fun b z=>absurd (show b∈([]:List Addr) from z) (by simp),
  e0.bs,e0.bsz,fun b _ _ z=>absurd (show b∈([]:List Addr) from z) (by simp),fun b z=>absurd (show b∈([]:List Addr) from z) (by simp),e0.funs,e0.frf⟩,rfl,e0.bare,Un.kept hk,⟨m,hn,fun j x w e1 e2 e3=>?_⟩,cellK,fr,fun x c e=>I.freeC x c (cl1 x c e),(fun p hp=>nomatch hp),e0.hok.kept hk,?_⟩
 ·have hx:scope.names.lookup x=some .cell∨scope.names.lookup x=some .free:=hx
  rcases hx with z|z
  ·exact absurd rfl (ok.cell _ (key _ _ _ z))
  ·exact cl2 _ (key _ _ _ z) rfl
 ·cases j with
  |zero=>
   have e1:some y=some x:=e1
   cases e1
   have e2:some (some v)=some (some w):=e2
   cases e2
   exact⟨u,rv,.inl ⟨hy,hm⟩⟩
  |succ j=>
   have e1:Nc[j]?=some x:=e1
   have e2:(vP cap σ)[j]?=some (some w):=e2
   unfold vP at e2
   rw[List.getElem?_map] at e2
   cases hj:cap[j]? with
   |none=>rw[hj] at e2;cases e2
   |some o=>
    rw[hj] at e2
    cases o with
    |none=>cases e2
    |some i=>
     obtain⟨h1',h2⟩:=ok.cap j i x hj e1
     have e2':(σ[i]?).join=some w:=Option.some.inj e2
     have e4:σ[i]?=some (some w):=by
      cases hs:σ[i]? with
      |none=>rw[hs] at e2';cases e2'
      |some o=>rw[hs] at e2';exact congrArg some e2'
     have hmem:=key _ _ _ h2
     have hout:=ok.free _ hmem rfl
     obtain⟨m',hn',hl'⟩:=I.loc
     obtain⟨u',r,l⟩:=hl' i x w h1' e4 (.inr hout)
     refine⟨u',r,.inr ⟨.inr h2,?_⟩⟩
     rcases l with⟨kl,_⟩|⟨_,c,hc,o,ho,hd⟩
     ·rcases hout with z|z
      ·rw[show X.env.kindOf x=some .cell from z] at kl;cases kl
      ·rw[show X.env.kindOf x=some .free from z] at kl;cases kl
     ·obtain⟨c',hc'⟩:=cl2 _ hmem rfl
      have e':X.env.cells.lookup x=some c':=cl1 _ _ hc'
      rw[hc] at e'
      cases e'
      exact⟨c,hc',o,hk c o ho,hd⟩
 ·show(some v::vP cap σ).length=(y::Nc).length
  unfold vP
  rw[List.length_cons,List.length_map,ok.len,List.length_cons]
theorem zfo {name:Str}{params:Arguments}{body:Expr}{pm ct:Value}{u:Value}{v:V}{t:TE}{Q:VK}(I:Inv X pins σ H s)(ok:yW X.N X.env.scope Nc cap scope)(hco:scope.isCoroutine=false)(hgen:scope.isGenerator=false)(hloc:scope.names.lookup y=some .local)
 (cl1:∀x c,cl.lookup x=some c→X.env.cells.lookup x=some c) (cl2:∀x∈scope.names,x.2=.free→∃c,cl.lookup x.1=some c)
 (e0:Env0 X.prog X.w X.K X.mg X.base A X.stack s H){k:Nat}(hr:Room k A) (rv:RelV v u)
 (hf:H f=some (fT f (PySem.W.kla_fn name qual params body scope cl pm (.ref c) ct))) (hc:H c=some (xY c qual)) (hb:bindArgs (PySem.W.kla_fn name qual params body scope cl pm (.ref c) ct) ⟨[u],[]⟩=pure [(y,u)])
 (ht:PE (X.lam A (y::Nc) qual scope cl f c s H) body t) (hq:t (some v::vP cap σ) H Q):wpAny (model X.prog X.w) A (call (.ref f) [u]) (EP X pins σ Q) (fun _ _=>False) s:=by
 have lim:s.heap.NoLimit:=I.nolimit
 obtain⟨o,ho,hd⟩:=(show ObjOk X.prog X.w H s.heap f (fT f _) from e0.hok f _ hf).1
 have hcd:=(show ObjOk X.prog X.w H s.heap c (xY c qual) from e0.hok c _ hc).1
 refine wpAny_call (PySem.W.kla_callFunE hr.depth ho hd hco hgen rfl hcd ?_)
 rw[hb]
 refine wpAny_pure (wpAny_newFunctionEnv ok.cell (by intro z hz;rw[List.mem_singleton.mp hz];exact hloc) (fun h₁ hns hsb=>?_) ok.kind)
 have hk:∀b o,s.heap.get? b=some o→h₁.get? b=some o:=fun b o e=>hsb.extBut b o (Nat.ne_of_lt (Heap.lt_size e)) (Heap.get?_push_of_some _ e)
 refine⟨lim.keeps hk,?_⟩
 show codeAny _ A (.expr body (PySem.W.envX qual scope s.heap.objs.size f (.ref c) cl)) _ _
 refine PySem.W.kla_codeExpr ?_
 have J:=zgA (qual:=qual) (cl:=cl) (f:=f) (c:=c) (tk:=s.toks+[(y,u)].length) I ok cl1 cl2 e0 hr.hd hloc rv hns (by simp[List.lookup]) hk
 refine wpAny_mono (ht [] _ _ H Q J hq) (fun u' s' hs=>?_) fun e s' hs=>False.elim hs
 obtain⟨v',H',J',rv',q⟩:=hs
 exact I.after ⟨v',H',J'.os,J'.bare,J'.base,J'.hok,rv',q⟩
end
theorem ze3 {X:Cx}{c P:Addr}{params:Arguments}{body:Expr}{scope:Scope}{pos:Pos}{cl:List (Str×Addr)}(hcode:X.env.code=.ref c)(hC:PySem.W.codeHdIn X.K c P=true)(hB:zbs X.mg X.base)(hcl:closureFor scope X.env=pure cl)(hdef:defaultsOf params X.env=([],[]):=by rfl) :
 PE X (.Lambda params body scope pos) (zgV P pos (X.env.qual++"<lambda>") fun c' ct=>PySem.W.kla_fn "<lambda>" (X.env.qual++"<lambda>") params body scope cl ((X.mg "__name__").getD .none) (.ref c') ct):=by
 intro pins s σ H Q I h
 refine PySem.W.kla_eval hdef ?_
 have hP:∀ps,H P=some (.tbl ps)→s.heap.get? P=some (PySem.W.tabObj ps)∧mainGlobals≠P∧s.heap.BuiltinsAt X.mg P:=fun ps hp=>by
  have e:s.heap.get? P=some (PySem.W.tabObj ps):=I.hok P _ hp
  have nb:∀b o,X.base.get? b=some o→b≠P:=fun b o q z=>by
   subst z
   rw[(I.bs b o q).2] at hp;cases hp
  obtain⟨og,eg,ep,g1,g2,_⟩:=I.mod.glob
  obtain⟨bm,o,b1,b2,b3,b4,b5⟩:=hB
  exact⟨e,nb _ _ g1,bm,o,b1,b2,b3,nb _ _ b4,I.bk _ _ b4,b5⟩
 have hg:s.heap.Ns mainGlobals X.mg:=I.mod.glob.keeps I.bk
 have C:PySem.W.CodeHd s.heap c P:=PySem.W.codeHd_of_K I.kIn hC
 rcases h with⟨hp,qq⟩|⟨c',hp,hc',qq⟩
 ·obtain⟨e,ng,bb⟩:=hP _ hp
  refine PySem.W.kla_makeFunction (mg:=X.mg) hcl I.ok.glob hg hcode C e True.intro rfl ng bb fun c' ct h' tk hx hge hlt hrec htb=>?_
  have hcn:H c'=none:=I.hok.fresh hge
  have hfn:H h'.objs.size=none:=I.hok.fresh (Nat.le_of_lt (Nat.lt_of_le_of_lt hge hlt))
  have nfc:h'.objs.size≠c':=Nat.ne_of_gt hlt
  have nPc:P≠c':=zc hp hcn
  have nPf:P≠h'.objs.size:=zc hp hfn
  have hkp:∀b o,b≠P→s.heap.get? b=some o→(h'.push (PySem.W.kla_obj "<lambda>" (X.env.qual++"<lambda>") params body scope cl ((X.mg "__name__").getD .none) c' ct)).get? b=some o:=fun b o n q=>Heap.get?_push_of_some _ (hx b o n q)
  have neP:∀b u,H b=some u→(∀ps,u≠.tbl ps)→b≠P:=fun b u q n z=>by subst z;rw[hp] at q;cases q;exact n _ rfl
  have at':∀b,b≠P→b≠c'→b≠h'.objs.size→(upd (upd (upd H P (.tbl (bW pos c'))) c' (xY c' (X.env.qual++"<lambda>"))) h'.objs.size (fT h'.objs.size (PySem.W.kla_fn "<lambda>" (X.env.qual++"<lambda>") params body scope cl ((X.mg "__name__").getD .none) (.ref c') ct))) b=H b:=fun b n1 n2 n3=>by
   rw[zf n3,zf n2,zf n1]
  have ofs:∀b u,H b=some u→b≠c'∧b≠h'.objs.size:=fun b u q=>⟨zc q hcn,zc q hfn⟩
  have hPn:(h'.push (PySem.W.kla_obj "<lambda>" (X.env.qual++"<lambda>") params body scope cl ((X.mg "__name__").getD .none) c' ct)).get? P=some (PySem.W.tabObj (bW pos c')):=by
   refine Heap.get?_push_of_some _ ?_
   rw[htb]
   rfl
  have old:∀b o,s.heap.get? b=some o→b≠c'∧b≠h'.objs.size:=fun b o q=>by
   have:=Heap.lt_size q
   exact⟨Nat.ne_of_lt (Nat.lt_of_lt_of_le this hge),Nat.ne_of_lt (Nat.lt_trans (Nat.lt_of_lt_of_le this hge) hlt)⟩
  have un:Un X.fs [] H (upd (upd (upd H P (.tbl (bW pos c'))) c' (xY c' (X.env.qual++"<lambda>"))) h'.objs.size (fT h'.objs.size (PySem.W.kla_fn "<lambda>" (X.env.qual++"<lambda>") params body scope cl ((X.mg "__name__").getD .none) (.ref c') ct))) s.heap (h'.push (PySem.W.kla_obj "<lambda>" (X.env.qual++"<lambda>") params body scope cl ((X.mg "__name__").getD .none) c' ct)):=by
   have nP:∀b,H b=none→b≠P:=fun b n z=>by subst z;rw[n] at hp;cases hp
   refine⟨fun b o q n _ _=>hkp b o (nP b n) q,fun b o q n _ _=>⟨o.slots,hkp b o (nP b n) q⟩,fun b o q n _=>by rw[at' b (nP b n) (old b o q).1 (old b o q).2];exact n,fun b o q _=>?_,fun b xs q=>?_,fun b o u q=>?_,fun b ps q=>?_⟩
   ·by_cases z:b=P
    ·subst z;exact⟨_,hPn⟩
    ·exact⟨o,hkp b o z q⟩
   ·rw[at' b (neP b _ q (by intro ps z;cases z)) (ofs b _ q).1 (ofs b _ q).2];exact q
   ·rw[at' b (neP b _ q (by intro ps z;cases z)) (ofs b _ q).1 (ofs b _ q).2];exact q
   ·by_cases z:b=P
    ·subst z
     rw[hp] at q;cases q
     refine⟨bW pos c',?_⟩
     rw[zf (ofs b _ hp).2,zf (ofs b _ hp).1,zb]
     simp
    ·exact⟨#[],by rw[at' b z (ofs b _ q).1 (ofs b _ q).2,q];simp⟩
  have hok:HOk X.prog X.w (upd (upd (upd H P (.tbl (bW pos c'))) c' (xY c' (X.env.qual++"<lambda>"))) h'.objs.size (fT h'.objs.size (PySem.W.kla_fn "<lambda>" (X.env.qual++"<lambda>") params body scope cl ((X.mg "__name__").getD .none) (.ref c') ct))) (h'.push (PySem.W.kla_obj "<lambda>" (X.env.qual++"<lambda>") params body scope cl ((X.mg "__name__").getD .none) c' ct)):=by
   intro b u hb
   by_cases z1:b=h'.objs.size
   ·subst z1
    rw[zb] at hb
    cases hb
    exact⟨⟨_,Heap.get?_push_size _ rfl,rfl⟩,⟨_,Heap.get?_push_size _ rfl⟩,fun h1 h2 ⟨o,e1,e2⟩ k=>⟨o,k _ e1,e2⟩⟩
   ·rw[zf z1] at hb
    by_cases z2:b=c'
    ·subst z2
     rw[zb] at hb
     cases hb
     have hrec':(h'.push (PySem.W.kla_obj "<lambda>" (X.env.qual++"<lambda>") params body scope cl ((X.mg "__name__").getD .none) b ct)).CodeRec (.ref b) (X.env.qual++"<lambda>"):=hrec.push _
     refine⟨hrec',?_,fun h1 h2 ⟨c2,o,vs,t,e1,e2,e3⟩ k=>?_⟩
     ·obtain⟨c2,o,vs,t,e1,e2,_⟩:=hrec'
      cases e1
      exact⟨o,e2⟩
     ·cases e1
      exact⟨b,o,vs,t,rfl,k _ e2,e3⟩
    ·rw[zf z2] at hb
     by_cases z3:b=P
     ·subst z3
      rw[zb] at hb
      cases hb
      exact hPn
     ·rw[zf z3] at hb
      refine(I.hok b u hb).stay (fun d v hd e=>hkp d v ?_ e) (fun d hd=>?_) fun d xs hd=>?_
      ·rcases hd with rfl|hd
       ·exact z3
       ·exact neP d _ hd (by intro ps z;cases z)
      ·rw[at' d (neP d _ hd (by intro ps z;cases z)) (ofs d _ hd).1 (ofs d _ hd).2];exact hd
      ·rw[at' d (neP d _ hd (by intro ps z;cases z)) (ofs d _ hd).1 (ofs d _ hd).2];exact hd
  exact⟨.ref h'.objs.size,_,I.un un hok,rfl,qq _ c' ct hfn hcn nfc⟩
 ·obtain⟨e,ng,bb⟩:=hP _ hp
  refine PySem.W.kla_makeFunctionHit (mg:=X.mg) (cv:=.ref c') hcl I.ok.glob hg hcode C e True.intro (by simp[codeAmong,rawInt]) bb fun ct h' tk hk hsz=>?_
  refine⟨.ref h'.objs.size,_,I.laid (a:=h'.objs.size) (o:=fT h'.objs.size (PySem.W.kla_fn "<lambda>" (X.env.qual++"<lambda>") params body scope cl ((X.mg "__name__").getD .none) (.ref c') ct)) (t':=tk) (fun b u e=>Heap.get?_push_of_some _ (hk b u e)) hsz ⟨⟨_,Heap.get?_push_size _ rfl,rfl⟩,⟨_,Heap.get?_push_size _ rfl⟩,fun h1 h2 ⟨o,e1,e2⟩ k=>⟨o,k _ e1,e2⟩⟩,rfl,qq _ ct (I.hok.fresh hsz)⟩
end
section
section
variable {X:Cx}{K:PySem.W.Frag}{x:Str}{p pos:Pos}{e:Expr}{es:List Expr}{kws:List Keyword}{t tk:TA}{id:String}{ks:List Str}
def zg2 (r:St→List V→List V→Hp→VK→Prop)(t tk:TA):TE:=fun σ H Q=>t σ H fun vs H1=>tk σ H1 fun zs H2=>r σ vs zs H2 Q
def zeJ (X:Cx)(id:String)(ks:List Str)(r:St→List V→List V→Hp→VK→Prop):Prop:=
 ∀(pins:List (Addr×Obj)) (s:Shared) (σ:St) (H:Hp) (vs zs:List V) (us ws:List Value) (Q:VK),Inv X pins σ H s→Vals vs us→Vals zs ws→r σ vs zs H Q→
  wpAny (model X.prog X.w) X.A (call (.builtin id) us (ks.zip ws)) (EP X pins σ Q) X.xe s
theorem zaV {r:St→List V→List V→Hp→VK→Prop}(hc:zeJ X id ks r)(hg:Gl X x)(hm:X.mg x=none)(hv:bootBuiltins x=some (.builtin id))(ha:PA X (e::es) t)(hk:PK X kws tk)(hn:x≠"__name__":=by decide)(hdb:(x==("__debug__":Str))=false:=by decide)
 (hks:(backToKw pos (keywordEach kws X.env)).filterMap (·.1)=ks:=by rfl)
 (he:backTo pos (starEach (e::es) X.env)=(false,eval e X.env)::backTo pos (starEach es X.env):=by rfl)
 (hplain:(backTo pos (starEach (e::es) X.env)).any (·.1)=false:=by rfl)
 (hall:(backToKw pos (keywordEach kws X.env)).all (·.1.isSome)=true:=by rfl)
 (hkw:(backToKw pos (keywordEach kws X.env)).any (·.1.isNone)=false:=by rfl):PE X (.Call (.Name x p) (e::es) kws pos) (zg2 r t tk):=by
 intro pins s σ H Q I h
 refine wpAny_Call_Name_kw (we I hg hm hv ?_ hn hdb)
 refine callWith_kw (thn (ha pos pins s σ H _ I h) fun us s1 ⟨vs,H1,I1,r1,q1⟩=>thn (hk pos pins s1 σ H1 _ I1 q1) fun ws s2 ⟨zs,H2,I2,r2,q2⟩=>?_) he hplain hall hkw
 rw[hks]
 exact hc pins s2 σ H2 vs zs us ws Q I2 r1 r2 q2
end
structure zhT (X:Cx)(y:Str)(Nc:List Str)(cap:List (Option Nat))(params:Arguments)(scope:Scope)(cl:List (Str×Addr)):Prop where
 ok:zU X.N X.env.scope Nc cap scope=true
 co:scope.isCoroutine=false
 gen:scope.isGenerator=false
 loc:scope.names.lookup y=some .local
 cls:closureFor scope X.env=pure cl
 cl1:∀x c,cl.lookup x=some c→X.env.cells.lookup x=some c
 cl2:∀x∈scope.names,x.2=.free→∃c,cl.lookup x.1=some c
theorem zfp {env:Env}{outer scope:Scope}{n:Nat}(hX:env.cells=cellsFrom n outer.names [])(h:scope.names.all (fun y=>y.2 != .free||outer.names.lookup y.1==some .cell)=true) :
 ∃cl,closureFor scope env=pure cl∧(∀x c,cl.lookup x=some c→env.cells.lookup x=some c)∧∀x∈scope.names,x.2=.free→∃c,cl.lookup x.1=some c:=by
 refine gU fun x hx hf=>?_
 have:=List.all_eq_true.mp h x hx
 rw[Bool.or_eq_true] at this
 rcases this with z|z
 ·rw[hf] at z;exact absurd z (by decide)
 ·rw[hX]
  exact gX (beq_iff_eq.mp z)
end
section
def KeptH (xs:List V)(KV:Hp→Nat→V→Prop)(H:Hp)(jb:Option Nat)(its:Array Value):Prop:=match jb with
 |none=>its = #[]
 |some j=>∃x y u v,xs[j]?=some x∧RelV x u∧KV H j y∧RelV y v∧its = #[u,v]
theorem KeptH.mono {xs:List V}{KV:Hp→Nat→V→Prop}(km:∀H H' i y,Same H H'→KV H i y→KV H' i y){H H':Hp}{jb:Option Nat}{its:Array Value}(s:Same H H')(h:KeptH xs KV H jb its):KeptH xs KV H' jb its:=by
 cases jb with
 |none=>exact h
 |some j=>
  obtain⟨x,y,u,v,h1,h2,h3,h4,h5⟩:=h
  exact⟨x,y,u,v,h1,h2,km _ _ _ _ s h3,h4,h5⟩
section
variable {X:Cx}{pins:List (Addr×Obj)}{σ:St}{H0:Hp}{a I S:Addr}{xs:List V}{KV:Hp→Nat→V→Prop}{bt:Nat→Nat→Bool}{key:Value}{kw:List (Str×Value)}{R:Result→Shared→Prop}
theorem zec (b:Bool)(km:∀H H' i y,Same H H'→KV H i y→KV H' i y)(hc:X.calm=true)(hSI:S≠I)
 (hl:SqL X.K H0 a xs)
 (hkey:(key=.none∧∀i x,xs[i]?=some x→KV H0 i x)∨∃q,key=.ref q∧∀i x u (pins:List (Addr×Obj)) s H,xs[i]?=some x→Inv X pins σ H s→RelV x u→Same H0 H→
   wpAny (model X.prog X.w) X.A.in1 (call (.ref q) [u]) (fun v s'=>∃y H',Inv X pins σ H' s'∧RelV y v∧KV H' i y∧Same H H') (fun _ _=>False) s)
 (hcmp:∀i j y z v u s H (pins:List (Addr×Obj)) (Q:Value→Shared→Prop) (E:Value→Shared→Prop),KV H i y→KV H j z→Inv X pins σ H s→Same H0 H→RelV y v→RelV z u→Q (.bool (bt i j)) s→wpAny (model X.prog X.w) X.A.in1 (richCompare (zfl b) v u) Q E s)
 (hR:∀s' H',Inv X pins σ H' s'→Same H0 H'→match pick bt xs.length with
   |none=>∀d dn r,kw=(dn,d)::r→R (.ok (.ret d)) s'
   |some j=>∀x u,xs[j]?=some x→RelV x u→R (.ok (.ret u)) s')
 (hkw:kw=[]→0<xs.length){s:Shared}(I0:Inv X pins σ H0 s) (it0:s.heap.IsListIter I a 0) (fI:qa X pins H0 I) (fS:qa X pins H0 S){c0:Nat}(s0:s.heap.get? S=some (zA #[] c0)) :
 codeAny (model X.prog X.w) X.A (.builtin (mmL b) ⟨[.ref I,key,.ref S],kw⟩) R s:=by
 have hn1:(toString "min"++toString ".loop":String)="min.loop":=by decide
 have hn2:(toString "max"++toString ".loop":String)="max.loop":=by decide
 have stI:∀{H':Hp},H' I=none→qa X pins H' I:=fun h=>⟨h,fI.2⟩
 have stS:∀{H':Hp},H' S=none→qa X pins H' S:=fun h=>⟨h,fS.2⟩
 have quiet:(Code.builtin (mmL b) ⟨[.ref I,key,.ref S],kw⟩).quiet=true:=by
  cases b
  ·exact plainId_quiet PySem.F.plain_max_loop _
  ·exact plainId_quiet PySem.F.plain_min_loop _
 refine codeAny_loop quiet (fun n s'=>∃i H its c,Inv X pins σ H s'∧Same H0 H∧s'.heap.IsListIter I a i∧H I=none∧H S=none∧s'.heap.get? S=some (zA its c)∧KeptH xs KV H (pick bt i) its∧i≤xs.length∧n=xs.length-i) ?_ xs.length
  ⟨0,H0,#[],c0,I0,Same.refl _,it0,fI.1,fS.1,s0,rfl,Nat.zero_le _,rfl⟩
 rintro n s1 ⟨i,H,its,c,I1,S1,hit,hI,hS,hob,hk,hi,rfl⟩
 obtain⟨vs,rv,pl,hz⟩:=I1.list (S1.seq hl)
 have hlen:=rv.length
 have isz:its.size≤2:=by
  cases e:pick bt i with
  |none=>rw[e] at hk;rw[show its = #[] from hk];decide
  |some j=>rw[e] at hk;obtain⟨_,_,_,_,_,_,_,_,rfl⟩:=hk;exact Nat.le_refl 2
 have hh:X.A.in1.handled=none:=I1.ok.hd hc
 cases hv:vs[i]? with
 |none=>
  have hil:i=xs.length:=by
   have:=List.getElem?_eq_none_iff.mp hv
   omega
  cases b
  all_goals
   first|rw[show mmL false="max.loop" from rfl]|rw[show mmL true="min.loop" from rfl]
   first|rw[Around.under_plainId PySem.F.plain_max_loop _]|rw[Around.under_plainId PySem.F.plain_min_loop _]
   first|rw[zX PySem.F.entry_max_loop]|rw[zX PySem.F.entry_min_loop]
   show wpAny _ X.A.in1 (seqItems? (.ref S) >>= _) _ _ _
   refine wpAny_bind (wpAny_seqItems hob rfl ?_)
   show wpAny _ X.A.in1 (tryCatch (pyNext (.ref I)) _ >>= _) _ _ _
   refine wpAny_bind (wpAny_tryCatch (wpAny_pyNext_list_end hh hit pl.isList (by simpa using hv) fun h' k'=>?_))
   have I2:Inv X pins σ H { s1 with heap:=h' }:=I1.turned (t':=s1.toks) (fun b' o hb e=>k' b' o hb e) hI fI.2.1 fI.2.2.2.1 fI.2.2.2.2.1 fI.2.2.2.2.2
   have hob2:=k' S _ hSI hob
   cases e:pick bt i with
   |none=>
    rw[e] at hk
    have hk:its = #[]:=hk
    subst hk
    cases kw with
    |nil=>exact absurd (bg e) (by have:=hkw rfl;omega)
    |cons p r=>
     refine wpAny_bind (wpAny_rule (wpAny_pure ?_))
     have:=hR _ H I2 S1
     rw[←hil,e] at this
     exact this p.2 p.1 r rfl
   |some j=>
    rw[e] at hk
    obtain⟨x,y,u,v,g1,g2,g3,g4,rfl⟩:=hk
    show wpAny _ X.A.in1 (updateSeq S (fun _=>#[]) >>= _) _ _ _
    refine wpAny_bind (wpAny_updateSeq hob2 rfl (wpAny_bind (wpAny_letGo (wpAny_pure ?_))))
    have:=hR _ H (I2.turned (it:=S) (h':=h'.update S (Obj.mapSeq fun _=>#[])) (t':=s1.toks) (fun b' o hb e=>(Heap.get?_update_other _ _ (Ne.symm hb)).trans e) hS fS.2.1 fS.2.2.2.1 fS.2.2.2.2.1 fS.2.2.2.2.2) S1
    rw[←hil,e] at this
    exact this x u g1 g2
 |some u=>
  have hil:i<vs.length:=(List.getElem?_eq_some_iff.mp hv).1
  obtain⟨x,hx⟩:∃x,xs[i]?=some x:=⟨xs[i]'(by omega),List.getElem?_eq_getElem (by omega)⟩
  obtain⟨u',hu',ru⟩:=rv.get hx
  rw[hv] at hu'
  cases hu'
  have tail:∀(s2:Shared) (H2:Hp) (y:V) (v:Value) (o2:Obj),Inv X (pins++[(I,o2),(S,zA its c)]) σ H2 s2→Same H H2→RelV y v→KV H2 i y→(o2.cls=.type "list_iterator"∧o2.data=.fields #[.ref a,.int ((i+1:Nat):Int) 0])→
   ∀jn,jn=pick bt (i+1)→∀its',KeptH xs KV H2 jn its'→its'.size=2→∀T:Nat,∃m,m<xs.length-i∧∃i' H' its c,Inv X pins σ H' { s2 with heap:=s2.heap.update S (Obj.mapSeq fun _=>its'),toks:=T }∧Same H0 H'∧(s2.heap.update S (Obj.mapSeq fun _=>its')).IsListIter I a i'∧H' I=none∧H' S=none∧(s2.heap.update S (Obj.mapSeq fun _=>its')).get? S=some (zA its c)∧KeptH xs KV H' (pick bt i') its∧i'≤xs.length∧m=xs.length-i':=by
   intro s2 H2 y v o2 J S2 ry hy ho jn hj its' hk' hz' T
   have q1:=J.pin (I,o2) (by simp)
   have q2:=J.pin (S,zA its c) (by simp)
   have J1:Inv X pins σ H2 s2:=J.unpinned
   have g:=get?_update_seq (c:="list") q2.1 (fun _=>its')
   refine⟨xs.length-(i+1),by omega,i+1,H2,its',_,J1.turned (it:=S) (fun b' o hb e=>(Heap.get?_update_other _ _ (Ne.symm hb)).trans e) q2.2.1 fS.2.1 fS.2.2.2.1 fS.2.2.2.2.1 fS.2.2.2.2.2,S1.trans S2,⟨o2,(Heap.get?_update_other _ _ hSI).trans q1.1,ho.1,ho.2⟩,q1.2.1,q2.2.1,g,by rw[←hj];exact hk',by omega,rfl⟩
  have tail0:∀(s2:Shared) (H2:Hp) (o2:Obj),Inv X (pins++[(I,o2),(S,zA its c)]) σ H2 s2→Same H H2→(o2.cls=.type "list_iterator"∧o2.data=.fields #[.ref a,.int ((i+1:Nat):Int) 0])→KeptH xs KV H2 (pick bt (i+1)) its→
   ∃m,m<xs.length-i∧∃i' H' its c,Inv X pins σ H' s2∧Same H0 H'∧s2.heap.IsListIter I a i'∧H' I=none∧H' S=none∧s2.heap.get? S=some (zA its c)∧KeptH xs KV H' (pick bt i') its∧i'≤xs.length∧m=xs.length-i':=by
   intro s2 H2 o2 J S2 ho hk'
   have q1:=J.pin (I,o2) (by simp)
   have q2:=J.pin (S,zA its c) (by simp)
   exact⟨xs.length-(i+1),by omega,i+1,H2,its,c,J.unpinned,S1.trans S2,⟨o2,q1.1,ho.1,ho.2⟩,q1.2.1,q2.2.1,q2.1,hk',by omega,rfl⟩
  cases b
  all_goals
   first|rw[show mmL false="max.loop" from rfl]|rw[show mmL true="min.loop" from rfl]
   first|rw[Around.under_plainId PySem.F.plain_max_loop _]|rw[Around.under_plainId PySem.F.plain_min_loop _]
   first|rw[zX PySem.F.entry_max_loop]|rw[zX PySem.F.entry_min_loop]
   show wpAny _ X.A.in1 (seqItems? (.ref S) >>= _) _ _ _
   refine wpAny_bind (wpAny_seqItems hob rfl ?_)
   show wpAny _ X.A.in1 (tryCatch (pyNext (.ref I)) _ >>= _) _ _ _
   refine wpAny_bind (wpAny_tryCatch (wpAny_pyNext_list_item hit pl.isList (x:=u) (by simpa using hv) fun h' hit' k'=>?_))
   have I2:Inv X pins σ H { s1 with heap:=h' }:=I1.turned (t':=s1.toks) (fun b' o hb e=>(k'.2 b' hb).trans e) hI fI.2.1 fI.2.2.2.1 fI.2.2.2.2.1 fI.2.2.2.2.2
   obtain⟨o2,ho2,hoc,hod⟩:=hit'
   have hob2:h'.get? S=some (zA its c):=(k'.2 S hSI).trans hob
   have I3:Inv X (pins++[(I,o2),(S,zA its c)]) σ H { s1 with heap:=h' }:=I2.pins_of fun p hp=>by
    rcases List.mem_append.mp hp with z|z
    ·exact I2.pin p (List.mem_append_right _ z)
    ·simp only[List.mem_cons,List.not_mem_nil,or_false] at z
     rcases z with rfl|rfl
     ·exact⟨ho2,hI,fI.2.1,fI.2.2.1,fun v q=>by rw[hod] at q;cases q⟩
     ·exact⟨hob2,hS,fS.2.1,fS.2.2.1,fun v q=>by cases q⟩
   rcases hkey with⟨rfl,hk0⟩|⟨q,rfl,hq⟩
   ·refine wpAny_bind (wpAny_pure ?_)
    have hy:=km _ _ _ _ S1 (hk0 i x hx)
    cases e:pick bt i with
    |none=>
     rw[e] at hk
     have hk:its = #[]:=hk
     subst hk
     have ep:pick bt (i+1)=some i:=by unfold pick;rw[e]
     refine wpAny_bind (wpAny_updateSeq hob2 rfl ?_)
     first|rw[hn1]|rw[hn2]
     exact wpAny_pure ⟨rfl,tail _ H x u o2 I3 (Same.refl _) ru hy ⟨hoc,hod⟩ _ ep.symm _ ⟨x,x,u,u,hx,ru,hy,ru,rfl⟩ rfl _⟩
    |some j=>
     rw[e] at hk
     obtain⟨xo,yo,uo,vo,g1,g2,g3,g4,rfl⟩:=hk
     show wpAny _ X.A.in1 (tryCatch (holding [u,u] (richCompare _ u vo >>= _)) _ >>= _) _ _ _
     refine wpAny_bind (wpAny_tryCatch (wpAny_holding (wpAny_bind (hcmp i j x yo u vo _ H _ _ _ hy g3 I3 S1 ru g4 (wpAny_bind (wpAny_holding (wpAny_truthy_bool (wpAny_bind (wpAny_letGo (wpAny_pure ?_))))))))))
     cases eb:bt i j with
     |true=>
      have ep:pick bt (i+1)=some i:=by unfold pick;rw[e];simp only[eb,if_true]
      refine wpAny_bind (wpAny_updateSeq hob2 rfl (wpAny_bind (wpAny_letGo ?_)))
      first|rw[hn1]|rw[hn2]
      exact wpAny_pure ⟨rfl,tail _ H x u o2 I3 (Same.refl _) ru hy ⟨hoc,hod⟩ _ ep.symm _ ⟨x,x,u,u,hx,ru,hy,ru,rfl⟩ rfl _⟩
     |false=>
      have ep:pick bt (i+1)=some j:=by unfold pick;rw[e];simp only[eb,Bool.false_eq_true,if_false]
      refine wpAny_bind (wpAny_letGo ?_)
      first|rw[hn1]|rw[hn2]
      exact wpAny_pure ⟨rfl,tail0 _ H o2 I3 (Same.refl _) ⟨hoc,hod⟩ (by rw[ep];exact⟨xo,yo,uo,vo,g1,g2,g3,g4,rfl⟩)⟩
   ·show wpAny _ X.A.in1 (tryCatch (holding [u] (call (.ref q) [u])) _ >>= _) _ _ _
    refine wpAny_bind (wpAny_tryCatch (wpAny_holding (wpAny_mono (hq i x u _ _ H hx I3 ru S1) (fun v s2 ⟨y,H2,J,ry,hy,S2⟩=>?_) fun _ _ z=>z.elim)))
    have hob3:=(J.pin (S,zA its c) (by simp)).1
    cases e:pick bt i with
    |none=>
     rw[e] at hk
     have hk:its = #[]:=hk
     subst hk
     have ep:pick bt (i+1)=some i:=by unfold pick;rw[e]
     refine wpAny_bind (wpAny_updateSeq hob3 rfl ?_)
     first|rw[hn1]|rw[hn2]
     exact wpAny_pure ⟨rfl,tail _ H2 y v o2 J S2 ry hy ⟨hoc,hod⟩ _ ep.symm _ ⟨x,y,u,v,hx,ru,hy,ry,rfl⟩ rfl _⟩
    |some j=>
     rw[e] at hk
     obtain⟨xo,yo,uo,vo,g1,g2,g3,g4,rfl⟩:=hk
     show wpAny _ X.A.in1 (tryCatch (holding [u,v] (richCompare _ v vo >>= _)) _ >>= _) _ _ _
     refine wpAny_bind (wpAny_tryCatch (wpAny_holding (wpAny_bind (hcmp i j y yo v vo _ H2 _ _ _ hy (km _ _ _ _ S2 g3) J (S1.trans S2) ry g4 (wpAny_bind (wpAny_holding (wpAny_truthy_bool (wpAny_bind (wpAny_letGo (wpAny_pure ?_))))))))))
     cases eb:bt i j with
     |true=>
      have ep:pick bt (i+1)=some i:=by unfold pick;rw[e];simp only[eb,if_true]
      refine wpAny_bind (wpAny_updateSeq hob3 rfl (wpAny_bind (wpAny_letGo ?_)))
      first|rw[hn1]|rw[hn2]
      exact wpAny_pure ⟨rfl,tail _ H2 y v o2 J S2 ry hy ⟨hoc,hod⟩ _ ep.symm _ ⟨x,y,u,v,hx,ru,hy,ry,rfl⟩ rfl _⟩
     |false=>
      have ep:pick bt (i+1)=some j:=by unfold pick;rw[e];simp only[eb,Bool.false_eq_true,if_false]
      refine wpAny_bind (wpAny_letGo ?_)
      first|rw[hn1]|rw[hn2]
      exact wpAny_pure ⟨rfl,tail0 _ H2 o2 J S2 ⟨hoc,hod⟩ (by rw[ep];exact⟨xo,yo,uo,vo,g1,g2,km _ _ _ _ S2 g3,g4,rfl⟩)⟩
end
theorem zf4 (b:Bool)(a v:Value):argsOk (mmI b) ⟨[a],[(Str.ofString "key",v)]⟩:=by cases b<;>(unfold argsOk;kernel_rfl)
inductive bN:List (Str×Value)→Value→List (Str×Value)→Prop where
 |one:bN [] .none []
 |dflt (d:Value):bN [(Str.ofString "default",d)] .none [(Str.ofString "default",d)]
 |key (q:Addr) (d:Value):bN [(Str.ofString "key",.ref q),(Str.ofString "default",d)] (.ref q) [(Str.ofString "default",d)]
 |key1 (q:Addr):bN [(Str.ofString "key",.ref q)] (.ref q) []
section
variable {X:Cx}{pins:List (Addr×Obj)}{σ:St}{H:Hp}{s:Shared}{a:Addr}{xs:List V}{KV:Hp→Nat→V→Prop}{bt:Nat→Nat→Bool}{Q:VK}
theorem zed (b:Bool)(km:∀H H' i y,Same H H'→KV H i y→KV H' i y){kws kw:List (Str×Value)}{key:Value}(hkw:bN kws key kw)(hc:X.calm=true)(I0:Inv X pins σ H s)(hl:SqL X.K H a xs)
 (hkey:(key=.none∧∀i x,xs[i]?=some x→KV H i x)∨∃q,key=.ref q∧∀i x u (pins:List (Addr×Obj)) s H',xs[i]?=some x→Inv X pins σ H' s→RelV x u→Same H H'→
   wpAny (model X.prog X.w) X.A.in1 (call (.ref q) [u]) (fun v s'=>∃y H2,Inv X pins σ H2 s'∧RelV y v∧KV H2 i y∧Same H' H2) (fun _ _=>False) s)
 (hcmp:∀i j y z v u s H' (pins:List (Addr×Obj)) (Q:Value→Shared→Prop) (E:Value→Shared→Prop),KV H' i y→KV H' j z→Inv X pins σ H' s→Same H H'→RelV y v→RelV z u→Q (.bool (bt i j)) s→wpAny (model X.prog X.w) X.A.in1 (richCompare (zfl b) v u) Q E s)
 (hn:kw=[]→0<xs.length) (hd:∀dn d r,kw=(dn,d)::r→d=.none)
 (hQ:∀H',Same H H'→match pick bt xs.length with|none=>Q .non H'|some j=>∀x,xs[j]?=some x→Q x H') :
 wpAny (model X.prog X.w) X.A (call (.builtin (mmI b)) [.ref a] kws) (EP X pins σ Q) X.xe s:=by
 have hn1:(toString "min"++toString ".loop":String)="min.loop":=by decide
 have hn2:(toString "max"++toString ".loop":String)="max.loop":=by decide
 obtain⟨vs,rv,pl,hz⟩:=I0.list hl
 have hls:=pl.isList
 have e1:(s.heap.push { cls:=.type "list_iterator",data:=.fields #[.ref a,.int 0 0] }).objs.size=s.heap.objs.size+1:=Heap.size_push ..
 have I1:Inv X pins σ H { s with heap:=(s.heap.push { cls:=.type "list_iterator",data:=.fields #[.ref a,.int 0 0] }).push (zA #[] 0) }:=I0.kept (t':=s.toks) fun b' o e=>Heap.get?_push_of_some _ (Heap.get?_push_of_some _ e)
 have gI:((s.heap.push { cls:=.type "list_iterator",data:=.fields #[.ref a,.int 0 0] }).push (zA #[] 0)).IsListIter s.heap.objs.size a 0:=⟨_,Heap.get?_push_of_some _ (Heap.get?_push_size _ rfl),rfl,rfl⟩
 have gS:((s.heap.push { cls:=.type "list_iterator",data:=.fields #[.ref a,.int 0 0] }).push (zA #[] 0)).get? (s.heap.push { cls:=.type "list_iterator",data:=.fields #[.ref a,.int 0 0] }).objs.size=some (zA #[] 0):=Heap.get?_push_size _ rfl
 have fI:qa X pins H s.heap.objs.size:=I0.fpOk (Nat.le_refl _) (I0.hok.fresh (Nat.le_refl _))
 have fS:qa X pins H (s.heap.push { cls:=.type "list_iterator",data:=.fields #[.ref a,.int 0 0] }).objs.size:=by
  rw[e1];exact I0.fpOk (Nat.le_succ _) (I0.hok.fresh (Nat.le_succ _))
 have nSI:(s.heap.push { cls:=.type "list_iterator",data:=.fields #[.ref a,.int 0 0] }).objs.size≠s.heap.objs.size:=by rw[e1];exact Nat.ne_of_gt (Nat.lt_succ_self _)
 have lp:codeAny (model X.prog X.w) X.A (.builtin (mmL b) ⟨[.ref s.heap.objs.size,key,.ref (s.heap.push { cls:=.type "list_iterator",data:=.fields #[.ref a,.int 0 0] }).objs.size],kw⟩)
  (fun r s'=>match r with | .ok (.ret v)=>EP X pins σ Q v s' | .ok _=>False | .error e=>X.xe e s') { s with heap:=(s.heap.push { cls:=.type "list_iterator",data:=.fields #[.ref a,.int 0 0] }).push (zA #[] 0) }:=by
  refine zec b km hc nSI hl hkey hcmp ?_ hn I1 gI fI fS gS
  intro s' H' I' S'
  have q:=hQ H' S'
  cases e:pick bt xs.length with
  |none=>
   rw[e] at q
   intro d dn r hk
   have hd':=hd dn d r hk
   subst hd'
   exact⟨.non,H',I',rfl,q⟩
  |some j=>
   rw[e] at q
   intro x u hx ru
   exact⟨x,H',I',ru,q x hx⟩
 cases b with
 |false=>
  cases hkw with
  |one=>
   refine PyProof.Rows.kmk_tree PySem.F.kind_max PySem.F.plain_max PySem.F.entry_max (zch false _) ?_
   show wpAny _ X.A.in1 (Builtin.Builtins.bindParams "max" ["key","default"] 0 ⟨[],[]⟩ >>= _) _ _ s
   refine wpAny_bind (wpAny_of_eq (show Builtin.Builtins.bindParams "max" ["key","default"] 0 ⟨[],[]⟩=pure [none,none] from rfl) ?_)
   refine wpAny_bind (wpAny_pure ?_)
   refine wpAny_bind (wpAny_pyIter_list hls ?_)
   refine wpAny_bind (wpAny_newList ?_ (Nat.zero_le _))
   rw[hn2]
   exact wpAny_pure ⟨plainId_quiet PySem.F.plain_max_loop _,lp⟩
  |dflt d=>
   refine PyProof.Rows.kmk_tree PySem.F.kind_max PySem.F.plain_max PySem.F.entry_max (zcg false _ _) ?_
   show wpAny _ X.A.in1 (Builtin.Builtins.bindParams "max" ["key","default"] 0 ⟨[],[(Str.ofString "default",d)]⟩ >>= _) _ _ s
   refine wpAny_bind (wpAny_of_eq (show Builtin.Builtins.bindParams "max" ["key","default"] 0 ⟨[],[(Str.ofString "default",d)]⟩=pure [none,some d] from rfl) ?_)
   refine wpAny_bind (wpAny_pure ?_)
   refine wpAny_bind (wpAny_pyIter_list hls ?_)
   refine wpAny_bind (wpAny_newList ?_ (Nat.zero_le _))
   rw[hn2]
   exact wpAny_pure ⟨plainId_quiet PySem.F.plain_max_loop _,lp⟩
  |key q d=>
   refine PyProof.Rows.kmk_tree PySem.F.kind_max PySem.F.plain_max PySem.F.entry_max (ph false _ _ _) ?_
   show wpAny _ X.A.in1 (Builtin.Builtins.bindParams "max" ["key","default"] 0 ⟨[],[(Str.ofString "key",.ref q),(Str.ofString "default",d)]⟩ >>= _) _ _ s
   refine wpAny_bind (wpAny_of_eq (show Builtin.Builtins.bindParams "max" ["key","default"] 0 ⟨[],[(Str.ofString "key",.ref q),(Str.ofString "default",d)]⟩=pure [some (.ref q),some d] from rfl) ?_)
   refine wpAny_bind (wpAny_pure ?_)
   refine wpAny_bind (wpAny_pyIter_list hls ?_)
   refine wpAny_bind (wpAny_newList ?_ (Nat.zero_le _))
   rw[hn2]
   exact wpAny_pure ⟨plainId_quiet PySem.F.plain_max_loop _,lp⟩
  |key1 q=>
   refine PyProof.Rows.kmk_tree PySem.F.kind_max PySem.F.plain_max PySem.F.entry_max (zf4 false _ _) ?_
   show wpAny _ X.A.in1 (Builtin.Builtins.bindParams "max" ["key","default"] 0 ⟨[],[(Str.ofString "key",.ref q)]⟩ >>= _) _ _ s
   refine wpAny_bind (wpAny_of_eq (show Builtin.Builtins.bindParams "max" ["key","default"] 0 ⟨[],[(Str.ofString "key",.ref q)]⟩=pure [some (.ref q),none] from rfl) ?_)
   refine wpAny_bind (wpAny_pure ?_)
   refine wpAny_bind (wpAny_pyIter_list hls ?_)
   refine wpAny_bind (wpAny_newList ?_ (Nat.zero_le _))
   rw[hn2]
   exact wpAny_pure ⟨plainId_quiet PySem.F.plain_max_loop _,lp⟩
 |true=>
  cases hkw with
  |one=>
   refine PyProof.Rows.kmk_tree PySem.F.kind_min PySem.F.plain_min PySem.F.entry_min (zch true _) ?_
   show wpAny _ X.A.in1 (Builtin.Builtins.bindParams "min" ["key","default"] 0 ⟨[],[]⟩ >>= _) _ _ s
   refine wpAny_bind (wpAny_of_eq (show Builtin.Builtins.bindParams "min" ["key","default"] 0 ⟨[],[]⟩=pure [none,none] from rfl) ?_)
   refine wpAny_bind (wpAny_pure ?_)
   refine wpAny_bind (wpAny_pyIter_list hls ?_)
   refine wpAny_bind (wpAny_newList ?_ (Nat.zero_le _))
   rw[hn1]
   exact wpAny_pure ⟨plainId_quiet PySem.F.plain_min_loop _,lp⟩
  |dflt d=>
   refine PyProof.Rows.kmk_tree PySem.F.kind_min PySem.F.plain_min PySem.F.entry_min (zcg true _ _) ?_
   show wpAny _ X.A.in1 (Builtin.Builtins.bindParams "min" ["key","default"] 0 ⟨[],[(Str.ofString "default",d)]⟩ >>= _) _ _ s
   refine wpAny_bind (wpAny_of_eq (show Builtin.Builtins.bindParams "min" ["key","default"] 0 ⟨[],[(Str.ofString "default",d)]⟩=pure [none,some d] from rfl) ?_)
   refine wpAny_bind (wpAny_pure ?_)
   refine wpAny_bind (wpAny_pyIter_list hls ?_)
   refine wpAny_bind (wpAny_newList ?_ (Nat.zero_le _))
   rw[hn1]
   exact wpAny_pure ⟨plainId_quiet PySem.F.plain_min_loop _,lp⟩
  |key q d=>
   refine PyProof.Rows.kmk_tree PySem.F.kind_min PySem.F.plain_min PySem.F.entry_min (ph true _ _ _) ?_
   show wpAny _ X.A.in1 (Builtin.Builtins.bindParams "min" ["key","default"] 0 ⟨[],[(Str.ofString "key",.ref q),(Str.ofString "default",d)]⟩ >>= _) _ _ s
   refine wpAny_bind (wpAny_of_eq (show Builtin.Builtins.bindParams "min" ["key","default"] 0 ⟨[],[(Str.ofString "key",.ref q),(Str.ofString "default",d)]⟩=pure [some (.ref q),some d] from rfl) ?_)
   refine wpAny_bind (wpAny_pure ?_)
   refine wpAny_bind (wpAny_pyIter_list hls ?_)
   refine wpAny_bind (wpAny_newList ?_ (Nat.zero_le _))
   rw[hn1]
   exact wpAny_pure ⟨plainId_quiet PySem.F.plain_min_loop _,lp⟩
  |key1 q=>
   refine PyProof.Rows.kmk_tree PySem.F.kind_min PySem.F.plain_min PySem.F.entry_min (zf4 true _ _) ?_
   show wpAny _ X.A.in1 (Builtin.Builtins.bindParams "min" ["key","default"] 0 ⟨[],[(Str.ofString "key",.ref q)]⟩ >>= _) _ _ s
   refine wpAny_bind (wpAny_of_eq (show Builtin.Builtins.bindParams "min" ["key","default"] 0 ⟨[],[(Str.ofString "key",.ref q)]⟩=pure [some (.ref q),none] from rfl) ?_)
   refine wpAny_bind (wpAny_pure ?_)
   refine wpAny_bind (wpAny_pyIter_list hls ?_)
   refine wpAny_bind (wpAny_newList ?_ (Nat.zero_le _))
   rw[hn1]
   exact wpAny_pure ⟨plainId_quiet PySem.F.plain_min_loop _,lp⟩
end
end
section
structure Cmp (A:Around)(s:Shared)(u v:Value)(c c':List Int):Prop where
 eq:SeqAt.EqAt A s u v (decide (c=c'))
 lt:∀(prog:Program) (w:World) (E:Value→Shared→Prop) (Q:Value→Shared→Prop),Q (.bool (HT.lexLt c c')) s→wpAny (model prog w) A (richCompare .Lt u v) Q E s
theorem zfx {A:Around}{s:Shared}(i:Int)(ti:Tok)(j:Int)(tj:Tok):Cmp A s (.int i ti) (.int j tj) [i] [j] where
 eq:=by
  have:=SeqAt.EqAt.int_int (A:=A) (s:=s) i ti j tj
  have e:decide ([i]=[j])=(i==j):=by
   rw[Bool.eq_iff_iff,decide_eq_true_iff,beq_iff_eq]
   simp
  rw[e];exact this
 lt:=fun prog w E Q h=>by
  rw[zgy] at h
  exact HT.rcLt_int _ _ _ _ _ _ prog w E Q h
section
variable {A:Around}{s:Shared}{a b:Addr}{u1 u2 u3 v1 v2 v3:Value}{i j:Int}{c c':List Int}
theorem gT (ha:IsTup s.heap a #[u1,u2])(hb:IsTup s.heap b #[v1,v2])(k1:Cmp A.in1 s u1 v1 [i] [j])(k2:Cmp A.in1 s u2 v2 c c')(hu:A.units+1<cLine)(hab:a=b→i=j∧c=c'):Cmp A s (.ref a) (.ref b) (i::c) (j::c'):=by
 have dec:decide (i::c=j::c')=(decide ([i]=[j])&&decide (c=c')):=by
  rw[Bool.eq_iff_iff,Bool.and_eq_true,decide_eq_true_iff,decide_eq_true_iff,decide_eq_true_iff]
  simp
 constructor
 ·rw[dec]
  by_cases e:a=b
  ·obtain⟨e1,e2⟩:=hab e
   subst e e1 e2
   rw[decide_eq_true rfl,decide_eq_true rfl]
   exact SeqAt.EqAt.same _
  ·refine SeqAt.EqAt.of_refs e fun prog w E Q h=>?_
   refine SeqAt.RcAt.tuples (e:=fun j'=>if j'=0 then decide ([i]=[j]) else decide (c=c')) (vv ha) (vv hb) (by omega) (fun j' h1 h2=>?_) prog w E Q ?_
   ·match j',h1,h2 with
    |0,_,_=>exact k1.eq
    |1,_,_=>exact k2.eq
   ·have e2:((List.range (min (#[u1,u2]:Array Value).size (#[v1,v2]:Array Value).size)).all (fun j'=>if j'=0 then decide ([i]=[j]) else decide (c=c'))&&(#[u1,u2]:Array Value).size==(#[v1,v2]:Array Value).size)=(decide ([i]=[j])&&decide (c=c')):=by
     show((List.range 2).all (fun j'=>if j'=0 then decide ([i]=[j]) else decide (c=c'))&&true)=_
     simp[List.range_succ]
    rw[e2]
    exact h
 ·intro prog w E Q h
  obtain⟨⟨cls,dd,data,sl⟩,ho,hc,n,hd⟩:=id ha
  obtain⟨⟨cls2,dd2,data2,sl2⟩,ho2,hc2,n2,hd2⟩:=id hb
  simp only at hc hd hc2 hd2
  subst hc hd hc2 hd2
  refine richCompare_meets_room (op:=.Lt) ⟨_,ho,rfl⟩ ⟨_,ho2,rfl⟩ PySem.F.slot_tuple_lt PySem.F.entry_tuple_lt (PySem.F.args_tuple_lt_2 _ _) (bU a b _ _ n n2 dd dd2 sl sl2 (HT.lexLt (i::c) (j::c')))
   ⟨ho,ho2,?_,show Value.bool (HT.lexLt (i::c) (j::c'))≠Value.notImplemented∧_ from⟨(fun x=>nomatch x),h⟩⟩ (by omega)
  show fo A.in1 s (decide (2<2)) [(u1,v1),(u2,v2)] _
  rw[HT.lexLt_cons]
  by_cases e:i=j
  ·rw[if_pos e]
   refine .eq (by have:=k1.eq;rw[decide_eq_true (by rw[e])] at this;exact this) ?_
   by_cases e2:c=c'
   ·subst e2
    rw[dH]
    exact .eq (by have:=k2.eq;rw[decide_eq_true rfl] at this;exact this) .nil
   ·exact .ne (by have:=k2.eq;rw[decide_eq_false e2] at this;exact this) k2.lt
  ·rw[if_neg e]
   have e':¬([i]=[j]):=fun z=>e (by simpa using z)
   refine .ne (by have:=k1.eq;rw[decide_eq_false e'] at this;exact this) fun prog w E Q hQ=>k1.lt prog w E Q ?_
   rw[zgy]
   exact hQ
end
def VDt (H:Hp)(v:V)(c:List Int):Prop:=∃p q r d n a b,v=.ref p∧H p=some (.tup [.int d,.ref q])∧H q=some (.tup [.int n,.ref r])∧H r=some (.tup [.int a,.int b])∧c=[d,n,a,b]
theorem zdi:∀(H H':Hp) (v:V) (c:List Int),Same H H'→VDt H v c→VDt H' v c:=fun _ _ _ _ S ⟨p,q,r,d,n,a,b,e1,e2,e3,e4,e5⟩=>⟨p,q,r,d,n,a,b,e1,S _ _ e2,S _ _ e3,S _ _ e4,e5⟩
def zdf (X:Cx)(A:Around)(VC:Hp→V→List Int→Prop):Prop:=∀(pins:List (Addr×Obj)) (σ:St) (H:Hp) (s:Shared) (x y:V) (u v:Value) (c c':List Int),Inv X pins σ H s→VC H x c→VC H y c'→RelV x u→RelV y v→Cmp A s u v c c'
theorem zfy {X:Cx}{A:Around}:zdf X A VI:=by
 rintro pins σ H s x y u v c c' I ⟨i,rfl,rfl⟩ ⟨j,rfl,rfl⟩ ru rv
 obtain⟨t,rfl⟩:=wm ru
 obtain⟨t',rfl⟩:=wm rv
 exact zfx _ _ _ _
theorem x3 {X:Cx}{pins:List (Addr×Obj)}{σ:St}{H:Hp}{s:Shared}{p:Addr}{x y:V}(I:Inv X pins σ H s)(h:H p=some (.tup [x,y])):∃u v,RelV x u∧RelV y v∧IsTup s.heap p #[u,v]:=by
 obtain⟨its,rv,it,_⟩:=I.tuple (SqT.of (K:=X.K) h)
 cases rv with
 |cons r1 r2=>
  cases r2 with
  |cons r3 r4=>
   cases r4
   exact⟨_,_,r1,r3,it⟩
theorem zir {X:Cx}{A:Around}(hu:A.units+8<cLine):zdf X A VPt:=by
 rintro pins σ H s x y u v c c' I ⟨p,a,b,rfl,hp,rfl⟩ ⟨p',a',b',rfl,hp',rfl⟩ ru rv
 cases ru;cases rv
 obtain⟨w1,w2,r1,r2,t⟩:=x3 I hp
 obtain⟨w3,w4,r3,r4,t'⟩:=x3 I hp'
 refine gT t t' (zfy (X:=X) _ _ _ _ _ _ _ _ _ _ I ⟨_,rfl,rfl⟩ ⟨_,rfl,rfl⟩ r1 r3) (zfy (X:=X) _ _ _ _ _ _ _ _ _ _ I ⟨_,rfl,rfl⟩ ⟨_,rfl,rfl⟩ r2 r4) (by omega) fun e=>?_
 subst e
 rw[hp] at hp'
 cases hp'
 exact⟨rfl,rfl⟩
theorem zis {X:Cx}{A:Around}(hu:A.units+16<cLine):zdf X A VNt:=by
 rintro pins σ H s x y u v c c' I ⟨p,q,n,a,b,rfl,hp,hq,rfl⟩ ⟨p',q',n',a',b',rfl,hp',hq',rfl⟩ ru rv
 cases ru;cases rv
 obtain⟨w1,w2,r1,r2,t⟩:=x3 I hp
 obtain⟨w3,w4,r3,r4,t'⟩:=x3 I hp'
 refine gT t t' (zfy (X:=X) _ _ _ _ _ _ _ _ _ _ I ⟨_,rfl,rfl⟩ ⟨_,rfl,rfl⟩ r1 r3) (zir (X:=X) (show A.units+1+8<cLine by omega) _ _ _ _ _ _ _ _ _ _ I ⟨_,_,_,rfl,hq,rfl⟩ ⟨_,_,_,rfl,hq',rfl⟩ r2 r4) (by omega) fun e=>?_
 subst e
 rw[hp] at hp'
 cases hp'
 rw[hq] at hq'
 cases hq'
 exact⟨rfl,rfl⟩
theorem zit {X:Cx}{A:Around}(hu:A.units+24<cLine):zdf X A VDt:=by
 rintro pins σ H s x y u v c c' I ⟨p,q,r,d,n,a,b,rfl,hp,hq,hr,rfl⟩ ⟨p',q',r',d',n',a',b',rfl,hp',hq',hr',rfl⟩ ru rv
 cases ru;cases rv
 obtain⟨w1,w2,r1,r2,t⟩:=x3 I hp
 obtain⟨w3,w4,r3,r4,t'⟩:=x3 I hp'
 refine gT t t' (zfy (X:=X) _ _ _ _ _ _ _ _ _ _ I ⟨_,rfl,rfl⟩ ⟨_,rfl,rfl⟩ r1 r3) (zis (X:=X) (show A.units+1+16<cLine by omega) _ _ _ _ _ _ _ _ _ _ I ⟨_,_,_,_,_,rfl,hq,hr,rfl⟩ ⟨_,_,_,_,_,rfl,hq',hr',rfl⟩ r2 r4) (by omega) fun e=>?_
 subst e
 rw[hp] at hp'
 cases hp'
 rw[hq] at hq'
 cases hq'
 rw[hr] at hr'
 cases hr'
 exact⟨rfl,rfl⟩
def zhW (b:Bool)(cs:Nat→List Int)(xs:List V)(H:Hp)(Q:VK):Prop:=zgP (fun i j=>if b then HT.lexLt (cs i) (cs j) else HT.lexLt (cs j) (cs i)) xs H Q
def zie (b dfl:Bool)(K:PySem.W.Frag)(VC:Hp→V→List Int→Prop)(cap:List (Option Nat))(t:TE)(qual:Str)(fd:Addr→Value→FuncData):St→List V→List V→Hp→VK→Prop:=fun σ vs zs H Q=>
 ∃(a f c:Addr) (ct:Value) (xs:List V) (cs:Nat→List Int),vs=[.ref a]∧zs=(if dfl then[.ref f,.non] else[.ref f])∧SqL K H a xs∧(dfl=false→0<xs.length)∧H f=some (fT f (fd c ct))∧H c=some (xY c qual)∧
 (∀(i:Nat) x H',xs[i]?=some x→Same H H'→t (some x::vP cap σ) H' fun y H2=>VC H2 y (cs i)∧Same H' H2)∧zhW b cs xs H Q
theorem ziu (b dfl:Bool){X:Cx}{K:PySem.W.Frag}{VC:Hp→V→List Int→Prop}{y:Str}{Nc:List Str}{cap:List (Option Nat)}{params:Arguments}{body:Expr}{scope:Scope}{cl:List (Str×Addr)}{name qual:Str}{pm:Value}{t:TE}{k:Nat}
 (hK:X.K=K) (hc:X.calm=true) (ck:if b then zdf X X.A.in1 VC else VC=VI) (vm:∀H H' v c,Same H H'→VC H v c→VC H' v c) (L:zhT X y Nc cap params scope cl) (hr:Room k X.A.in1)
 (hb:∀c ct u,bindArgs (PySem.W.kla_fn name qual params body scope cl pm (.ref c) ct) ⟨[u],[]⟩=pure [(y,u)]) (ht:∀f c s H,PE (X.lam X.A.in1 (y::Nc) qual scope cl f c s H) body t) :
 zeJ X (mmI b) (if dfl then[Str.ofString "key",Str.ofString "default"] else[Str.ofString "key"]) (zie b dfl K VC cap t qual fun c ct=>PySem.W.kla_fn name qual params body scope cl pm (.ref c) ct):=by
 subst hK
 intro pins s σ H vs zs us ws Q I r1 r2 h
 obtain⟨a,f,c,ct,xs,cs,rfl,rfl,hl,h0,hf,hcd,hs,hbst⟩:=h
 obtain⟨u,rfl,ru⟩:=vals1 r1
 cases ru
 have go:∀{kws kw},bN kws (.ref f) kw→(kw=[]→0<xs.length)→(∀dn d r,kw=(dn,d)::r→d=.none)→wpAny (model X.prog X.w) X.A (call (.builtin (mmI b)) [.ref a] kws) (EP X pins σ Q) X.xe s:=by
  intro kws kw hkw hn hd
  refine zed (b:=b) (KV:=fun H i y=>VC H y (cs i)) (bt:=fun i j=>if b then HT.lexLt (cs i) (cs j) else HT.lexLt (cs j) (cs i)) (fun H H' i y S h=>vm _ _ _ _ S h) hkw hc I hl (.inr ⟨f,rfl,?_⟩) ?_ hn hd hbst
  ·intro i x u' pins' s' H' hx I' rx S'
   have:=zfo (Q:=fun y H2=>VC H2 y (cs i)∧Same H' H2) I' (yy L.ok) L.co L.gen L.loc L.cl1 L.cl2 I'.env0.in1 hr rx (S' _ _ hf) (S' _ _ hcd) (hb c ct u') (ht f c s' H') (hs i x H' hx S')
   refine wpAny_mono this (fun w s'' hq'=>?_) fun _ _ z=>z
   obtain⟨y,H2,J,ry,vc,S2⟩:=hq'
   exact⟨y,H2,J,ry,vc,S2⟩
  ·intro i j y z v w' s' H' pins' Q' E' hy hz I' S' ry rz hq
   cases b with
   |true=>exact((show zdf X X.A.in1 VC from ck) pins' σ H' s' y z v w' _ _ I' hy hz ry rz).lt _ _ _ _ hq
   |false=>
    have ck:VC=VI:=ck
    subst ck
    obtain⟨n,rfl,e1⟩:=hy
    obtain⟨m,rfl,e2⟩:=hz
    obtain⟨t1,rfl⟩:=wm ry
    obtain⟨t2,rfl⟩:=wm rz
    show wpAny _ _ (compareOp .Gt _ _) _ _ _
    refine gt_int ?_
    have e:HT.lexLt (cs j) (cs i)=decide (m<n):=by rw[e1,e2,zgy]
    rw[←e]
    exact hq
 cases dfl with
 |true=>
  obtain⟨d1,d2,rfl,rd1,rd2⟩:=vals2 r2
  cases(show d1=Value.ref f from rd1)
  cases(show d2=Value.none from rd2)
  exact go (.key f .none) (fun z=>nomatch z) (fun dn d r z=>by cases z;rfl)
 |false=>
  obtain⟨d1,rfl,rd1⟩:=vals1 r2
  cases(show d1=Value.ref f from rd1)
  exact go (.key1 f) (fun _=>h0 rfl) (fun dn d r z=>nomatch z)
end
section
end
section
section
variable {P:Program}{w:World}{A:Around}{E:Value→Shared→Prop}{s:Shared}
abbrev ziy (h:Heap)(z TI TO:Addr)(ad:Addr)(f:Bool):Prop:=
 h.get? z=some { cls:=.type "zip",dict:=none,data:=.fields #[rawInt ad,.bool f,.bool false,.ref TI,.ref TO],slots:=#[] }
structure zix (b1 b2:Bool)(z TI TO i1 i2 l1 l2 ad:Addr)(k:Nat)(h:Heap):Prop where
 zz:∃f:Bool,ziy h z TI TO ad f
 ti:IsPair h TI (.ref i1) (.ref i2)
 al:∃o,h.get? ad=some o
 h1:ZI b1 h i1 l1 k
 h2:ZI b2 h i2 l2 k
 n1:ad≠z
 n2:ad≠i1
 n3:ad≠i2
def ZAny (b1 b2:Bool)(z TI TO i1 i2 l1 l2 S:Addr)(k:Nat)(h:Heap):Prop:=ZSt b1 b2 z TI TO i1 i2 l1 l2 .none k h∨∃ad,zix b1 b2 z TI TO i1 i2 l1 l2 ad k h∧ad≠S
theorem ZAny.keep {b1 b2:Bool}{z TI TO i1 i2 l1 l2 S:Addr}{k:Nat}{h h':Heap}(Z:ZAny b1 b2 z TI TO i1 i2 l1 l2 S k h)(hS:S∉[z,TI,TO,i1,i2])(e:∀b o,b≠S→h.get? b=some o→h'.get? b=some o):ZAny b1 b2 z TI TO i1 i2 l1 l2 S k h':=by
 simp only[List.mem_cons,List.not_mem_nil,or_false,not_or] at hS
 obtain⟨s1,s2,s3,s4,s5⟩:=hS
 rcases Z with⟨z1,z2,⟨a,c,z3⟩,y1,y2⟩|⟨ad,⟨⟨f,z1⟩,z2,⟨o,z3⟩,y1,y2,n1,n2,n3⟩,ne⟩
 ·exact .inl ⟨e _ _ (Ne.symm s1) z1,e _ _ (Ne.symm s2) z2,⟨a,c,e _ _ (Ne.symm s3) z3⟩,y1.at fun o q=>e _ _ (Ne.symm s4) q,y2.at fun o q=>e _ _ (Ne.symm s5) q⟩
 ·exact .inr ⟨ad,⟨⟨f,e _ _ (Ne.symm s1) z1⟩,e _ _ (Ne.symm s2) z2,⟨o,e _ _ ne z3⟩,y1.at fun o q=>e _ _ (Ne.symm s4) q,y2.at fun o q=>e _ _ (Ne.symm s5) q,n1,n2,n3⟩,ne⟩
theorem ZAny.type {b1 b2:Bool}{z TI TO i1 i2 l1 l2 S:Addr}{k:Nat}(Z:ZAny b1 b2 z TI TO i1 i2 l1 l2 S k s.heap):s.TypeIs (.ref z) "zip":=by
 rcases Z with Z|⟨ad,⟨⟨f,z1⟩,_⟩,_⟩
 ·exact⟨_,Z.zz,rfl⟩
 ·exact⟨_,z1,rfl⟩
end
section
variable {X:Cx}{pins:List (Addr×Obj)}{σ:St}{A:Around}{R:Result→Shared→Prop}{b1 b2:Bool}{z TI TO i1 i2 l1 l2 S:Addr}{xs ys:List V}{n:Nat}
end
theorem SqB.same {K:PySem.W.Frag}{H H':Hp}{b:Bool}{l:Addr}{us:List V}(S:Same H H')(h:SqB K b H l us):SqB K b H' l us:=by
 have rd:∀o,Rd H l o→Rd H' l o:=fun o r=>by
  rcases r with r|⟨ob,r⟩
  ·exact .inl (S _ _ r)
  ·exact .inr ⟨ob,S _ _ r⟩
 cases b with
 |true=>
  rcases(show SqT K H l us from h) with r|r
  ·exact Or.inl (rd _ r)
  ·exact Or.inr r
 |false=>
  rcases(show SqL K H l us from h) with r|r
  ·exact Or.inl (rd _ r)
  ·exact Or.inr r
section
variable {X:Cx}
end
end
section
def zbm (xs:Array Nat):Prop:=xs.toList.Pairwise (· < ·)
theorem gZ {xs:Array Nat}{j:Nat}(hr:zbm xs):∀(fuel lo hi:Nat),hi-lo≤fuel→lo≤hi→hi≤xs.size→(∀i x,i<lo→xs[i]?=some x→x<j)→(∀i x,hi≤i→xs[i]?=some x→j≤x)→
 (∀i x,i<SetTable.below.go xs j fuel lo hi→xs[i]?=some x→x<j)∧(∀i x,SetTable.below.go xs j fuel lo hi≤i→xs[i]?=some x→j≤x)∧SetTable.below.go xs j fuel lo hi≤xs.size
 |0,lo,hi,hf,hl,hs,h1,h2=>by
  unfold SetTable.below.go
  have:lo=hi:=by omega
  subst this
  exact⟨h1,h2,hs⟩
 |fuel+1,lo,hi,hf,hl,hs,h1,h2=>by
  unfold SetTable.below.go
  by_cases hlt:lo<hi
  ·rw[if_pos hlt]
   have hm:(lo+hi)/2<xs.size:=by omega
   have hg:xs[(lo+hi)/2]?=some xs[(lo+hi)/2]:=Array.getElem?_eq_getElem hm
   have hd:xs.getD ((lo+hi)/2) j=xs[(lo+hi)/2]:=by simp[Array.getD,hm]
   have pw:=List.pairwise_iff_getElem.mp hr
   have mono:∀a b x y,a<b→xs[a]?=some x→xs[b]?=some y→x<y:=fun a b x y hab ha hb=>by
    obtain⟨ha',ea⟩:=Array.getElem?_eq_some_iff.mp ha
    obtain⟨hb',eb⟩:=Array.getElem?_eq_some_iff.mp hb
    have:=pw a b (by simpa using ha') (by simpa using hb') hab
    simp only[Array.getElem_toList] at this
    rw[ea,eb] at this
    exact this
   simp only[hd]
   by_cases hx:xs[(lo+hi)/2]<j
   ·rw[if_pos hx]
    refine gZ hr fuel _ _ (by omega) (by omega) hs (fun i x hi' e=>?_) h2
    rcases Nat.lt_or_ge i ((lo+hi)/2) with q|q
    ·exact Nat.lt_trans (mono _ _ _ _ q e hg) hx
    ·have:i=(lo+hi)/2:=by omega
     subst this
     rw[hg] at e;cases e;exact hx
   ·rw[if_neg hx]
    refine gZ hr fuel _ _ (by omega) (by omega) (by omega) h1 (fun i x hi' e=>?_)
    rcases Nat.lt_or_ge ((lo+hi)/2) i with q|q
    ·have:=mono _ _ _ _ q hg e;omega
    ·have:i=(lo+hi)/2:=by omega
     subst this
     rw[hg] at e;cases e;omega
  ·rw[if_neg hlt]
   have:lo=hi:=by omega
   subst this
   exact⟨h1,h2,hs⟩
theorem zbd {xs:Array Nat}(hr:zbm xs)(j:Nat):(∀i x,i<SetTable.below xs j→xs[i]?=some x→x<j)∧(∀i x,SetTable.below xs j≤i→xs[i]?=some x→j≤x)∧SetTable.below xs j≤xs.size:=by
 unfold SetTable.below
 exact gZ hr _ _ _ (by omega) (Nat.zero_le _) (Nat.le_refl _) (fun i x h _=>by omega) (fun i x h e=>by have:=(Array.getElem?_eq_some_iff.mp e).1;omega)
theorem pY {xs:Array Nat}(hr:zbm xs){j:Nat}(hn:xs[SetTable.below xs j]?≠some j):zbm (SetTable.insertAt xs (SetTable.below xs j) j):=by
 obtain⟨h1,h2,h3⟩:=zbd hr j
 unfold zbm
 rw[SetTable.toList_insertAt]
 generalize SetTable.below xs j=r at *
 have pw:xs.toList.Pairwise (· < ·):=hr
 rw[List.pairwise_append,List.pairwise_cons]
 have ge:∀b∈xs.toList.drop r,j<b:=fun b hb=>by
  obtain⟨k,hk⟩:=List.mem_iff_getElem?.mp hb
  rw[List.getElem?_drop] at hk
  have hk':xs[r+k]?=some b:=by simpa using hk
  have hle:=h2 (r+k) b (by omega) hk'
  rcases Nat.lt_or_eq_of_le hle with q|q
  ·exact q
  ·exfalso
   subst q
   rcases Nat.eq_zero_or_pos k with z|z
   ·subst z;exact hn hk'
   ·obtain⟨hb',eb⟩:=Array.getElem?_eq_some_iff.mp hk'
    have hr':xs[r]?=some xs[r]:=Array.getElem?_eq_getElem (by omega)
    have:=h2 r _ (Nat.le_refl _) hr'
    have:=List.pairwise_iff_getElem.mp pw r (r+k) (by simp;omega) (by simpa using hb') (by omega)
    simp only[Array.getElem_toList] at this
    omega
 refine⟨pw.sublist (List.take_sublist ..),⟨ge,pw.sublist (List.drop_sublist ..)⟩,fun a ha b hb=>?_⟩
 have ha':a<j:=by
  obtain⟨k,hk⟩:=List.mem_iff_getElem?.mp ha
  rw[List.getElem?_take] at hk
  split at hk
  ·exact h1 k a (by assumption) (by simpa using hk)
  ·cases hk
 rcases List.mem_cons.mp hb with rfl|hb
 ·exact ha'
 ·exact Nat.lt_trans ha' (ge b hb)
structure zeG (b:Bool)(t:SetTable):Prop where
 led:t.led=b
 rise:zbm t.place
 dum:t.dummies = #[]
theorem zcS (j:Nat):SetTable.has #[] j=false:=rfl
end
section
def kOf (e:Int×Value):Int:=match e.2 with | .int k _=>k|_=>0
structure EsOk (es:List (Int×Value))(ns:List Int):Prop where
 el:∀e∈es,(∃t,e.2=.int (kOf e) t)∧e.1=hashInt (kOf e)
 nd:(es.map kOf).Nodup
 mem:∀k,k∈es.map kOf↔k∈ns
theorem EsOk.len {es:List (Int×Value)}{ns:List Int}(h:EsOk es ns):es.length≤ns.length:=by
 have:=List.Nodup.length_le_of_subset h.nd fun k hk=>(h.mem k).mp hk
 rw[List.length_map] at this
 exact this
def ISet (h:Heap)(a:Addr)(b:Bool)(ns:List Int):Prop:=∃o es ep t,h.get? a=some o∧o.ExactSet∧o.data=.set es ep t∧EsOk es.toList ns∧t.fits es.size=true∧zeG b t
theorem ISet.at {h h':Heap}{a:Addr}{b:Bool}{ns:List Int}(x:ISet h a b ns)(k:∀o,h.get? a=some o→h'.get? a=some o):ISet h' a b ns:=let ⟨o,es,ep,t,ho,r⟩:=x;⟨o,es,ep,t,k o ho,r⟩
section
variable {P:Program}{w:World}{A:Around}{E:Value→Shared→Prop}{s:Shared}
end
end
section
section
variable {P:Program}{w:World}{A:Around}{E:Value→Shared→Prop}{s:Shared}
section
variable {it a:Addr}{o:Obj}{es:Array (Int×Value)}{ep:Nat}{t:SetTable}
end
end
end
section
section
variable {P:Program}{w:World}{A:Around}{E:Value→Shared→Prop}{s:Shared}
end
end
section
section
variable {P:Program}{w:World}{A:Around}{E:Value→Shared→Prop}{s:Shared}
end
end
section
section
variable {P:Program}{w:World}{A:Around}{E:Value→Shared→Prop}{s:Shared}
end
end
section
section
variable {P:Program}{w:World}{A:Around}{E:Value→Shared→Prop}{s:Shared}{R:Result→Shared→Prop}
end
end
section
end
section
section
variable {X:Cx}{pins:List (Addr×Obj)}{σ:St}{A:Around}{R:Result→Shared→Prop}{it l S:Addr}{as:List Addr}{xss:List (List V)}
def ListsAt (H:Hp)(as:List Addr)(xss:List (List V)):Prop:=Paired (fun a xs=>H a=some (.lst xs)) as xss
theorem ListsAt.same {H H':Hp}(S:Same H H')(h:ListsAt H as xss):ListsAt H' as xss:=Paired.imp' (fun a xs e=>S _ _ e) h
end
end
section
theorem CP.uniq {h:Heap}{u:Value}{c c':List Int}(a:CP h u c)(b:CP h u c'):c=c':=by
 obtain⟨p,a,b,t1,t2,rfl,hp,rfl⟩:=a
 obtain⟨p',a',b',t1',t2',e,hp',rfl⟩:=b
 cases e
 have e:=xA hp hp'
 simp only[Array.mk.injEq,List.cons.injEq,Value.int.injEq] at e
 rw[e.1.1,e.2.1.1]
theorem CP.keep {h h':Heap}{u:Value}{c:List Int}(k:∀b o,h.get? b=some o→h'.get? b=some o)(a:CP h u c):CP h' u c:=by
 obtain⟨p,a,b,t1,t2,rfl,hp,rfl⟩:=a
 exact⟨p,a,b,t1,t2,rfl,wj k hp,rfl⟩
end
section
section
variable {X:Cx}{N:List Str}{scope:Scope}{C:Addr}{s3:Shared}{H3:Hp}{fp:List Addr}{pins:List (Addr×Obj)}{σ:St}
end
section
variable {X:Cx}{elt tg iter:Expr}{ifs:List Expr}{rest:List Comprehension}{scope:Scope}{pos:Pos}{N:List Str}{wi:TI}{g:TG}{t:TT}{b:Addr→TB}
end
end
section
section
variable {X:Cx}
end
end
section
def strsOf:List Expr→Option (List Str)
 |[]=>some []
 | .Constant (.str x) _ _::r=>(strsOf r).map (x::·)
 |_::_=>none
theorem kJ {X:Cx}:∀{es:List Expr}(ws:List Str),strsOf es=some ws→PA X es (fun σ H Q=>Q (ws.map V.str) H)
 |[],ws,h=>by
  have e:ws=[]:=by
   have:some ([]:List Str)=some ws:=h
   injection this with this
   exact this.symm
  subst e
  exact pa_nil
 | .Constant (.str x) k p::r,ws,h=>by
  have h':(strsOf r).map (x::·)=some ws:=h
  obtain⟨l,hl,rfl⟩:=Option.map_eq_some_iff.mp h'
  exact za (zj) (kJ l hl) rfl
end
section
end
section
structure TabP (b:Bool)(t:SetTable)(n:Nat):Prop where
 ok:zeG b t
 pow:∃k,1≤k∧t.mask+1=2^k
 size:t.place.size=n
 le:∀j∈t.place.toList,j≤t.mask
 room:n≤t.mask
theorem xM:∀(l m:List Nat),l.Nodup→(∀x∈l,x∈m)→l.length≤m.length
 |[],_,_,_=>Nat.zero_le _
 |x::l,m,hn,hs=>by
  obtain⟨h1,h2⟩:=List.nodup_cons.mp hn
  have hx:=hs x List.mem_cons_self
  have ih:=xM l (m.erase x) h2 fun y hy=>(List.mem_erase_of_ne (fun e:y=x=>h1 (by rw[←e];exact hy))).mpr (hs y (List.mem_cons_of_mem _ hy))
  rw[List.length_erase_of_mem hx] at ih
  have:=List.length_pos_of_mem hx
  rw[List.length_cons]
  omega
theorem TabP.free {b:Bool}{t:SetTable}{n:Nat}(h:TabP b t n):∃e,e≤t.mask∧e∉t.place.toList:=by
 by_cases q:∃e,e≤t.mask∧e∉t.place.toList
 ·exact q
 ·exfalso
  have hall:∀x∈List.range (t.mask+1),x∈t.place.toList:=fun x hx=>by
   by_cases z:x∈t.place.toList
   ·exact z
   ·exact absurd ⟨x,by have:=List.mem_range.mp hx;omega,z⟩ q
  have:=xM _ _ List.nodup_range hall
  rw[List.length_range,Array.length_toList,h.size] at this
  have:=h.room
  omega
section
variable {b:Bool}{t:SetTable}{hashAt:Nat→Int}{h:Int}
theorem zc6 {xs:Array Nat}(hr:zbm xs){j:Nat}(hj:j∉xs.toList):xs[SetTable.below xs j]?≠some j:=fun e=>hj (Array.mem_toList_iff.mpr (Array.mem_of_getElem? e))
theorem xN {α:Type}(xs:Array α)(p:Nat)(x:α):(SetTable.insertAt xs p x).toList=xs.toList.take p++x::xs.toList.drop p:=by
 unfold SetTable.insertAt
 rw[Array.toList_append,Array.toList_push,Array.toList_extract,Array.toList_extract,List.extract_eq_take_drop,List.extract_eq_take_drop,List.drop_zero,Nat.sub_zero,List.append_assoc]
 congr 1
 show x::((xs.toList.drop p).take (xs.size-p))=_
 rw[List.take_of_length_le (by rw[List.length_drop,Array.length_toList];exact Nat.le_refl _)]
theorem TabP.put {n:Nat}(T:TabP b t n){j:Nat}(hj:j∉t.place.toList)(hm:j≤t.mask):zeG b (t.put j).1∧(t.put j).1.place.size=n+1∧(t.put j).1.mask=t.mask∧(∀x∈(t.put j).1.place.toList,x≤t.mask)∧(t.put j).1.dummies = #[]∧(t.put j).1.plain=t.plain:=by
 have hd:(t.put j).1.dummies = #[]:=by
  show(if SetTable.has t.dummies j=true then _ else t.dummies) = #[]
  rw[T.ok.dum,zcS]
  rfl
 have hp:(t.put j).1.place=SetTable.insertAt t.place (SetTable.below t.place j) j:=rfl
 refine⟨⟨T.ok.led,by rw[hp];exact pY T.ok.rise (zc6 T.ok.rise hj),hd⟩,?_,rfl,?_,hd,rfl⟩
 ·rw[hp,←Array.length_toList,xN,List.length_append,List.length_cons,List.length_take,List.length_drop,Array.length_toList,T.size]
  omega
 ·intro x hx
  rw[hp,xN] at hx
  rcases List.mem_append.mp hx with q|q
  ·exact T.le x (List.mem_of_mem_take q)
  ·rcases List.mem_cons.mp q with rfl|q
   ·exact hm
   ·exact T.le x (List.mem_of_mem_drop q)
end
end
section
end
section
def hM:Nat:=18446744073709551616
def prH (a b:Nat):Int:=reduceHash (Builtin.Tuple.tupleHashOf [(a:Int),(b:Int)])
end
section
def PrAt (h:Heap)(u:Value)(c:Nat×Nat):Prop:=∃p t1 t2,u=.ref p∧IsTup h p #[.int (c.1:Int) t1,.int (c.2:Int) t2]
theorem PrAt.uniq {h:Heap}{u:Value}{c d:Nat×Nat}(x:PrAt h u c)(y:PrAt h u d):c=d:=by
 obtain⟨p,t1,t2,rfl,o,ho,_,n,hd⟩:=x
 obtain⟨p',t1',t2',e,o',ho',_,n',hd'⟩:=y
 injection e with e
 subst e
 obtain rfl:o=o':=Option.some.inj (ho.symm.trans ho')
 rw[hd] at hd'
 injection hd' with h1 _
 have h2:=congrArg Array.toList h1
 injection h2 with h3 h4
 injection h4 with h5 _
 injection h3 with h6 _
 injection h5 with h7 _
 exact Prod.ext (Int.ofNat.inj h6) (Int.ofNat.inj h7)
theorem PrAt.same {h h':Heap}{u:Value}{c:Nat×Nat}{a:Addr}{o:Obj}{es:Array (Int×Value)}{ep:Nat}{t:SetTable}(x:PrAt h u c)(ho:h.get? a=some o)(hd:o.data=.set es ep t)(hs:Heap.SameBut a h h'):PrAt h' u c:=by
 obtain⟨p,t1,t2,e,o',ho',hc,n,hd'⟩:=x
 have hne:p≠a:=by
  rintro rfl
  obtain rfl:o'=o:=Option.some.inj (ho'.symm.trans ho)
  rw[hd] at hd'
  exact nomatch hd'
 exact⟨p,t1,t2,e,o',(hs.2 p hne).trans ho',hc,n,hd'⟩
abbrev PRel:=Value→Nat×Nat→Prop
def PRel.Un (D:PRel):Prop:=∀u c d,D u c→D u d→c=d
open Classical in
noncomputable def zhp (D:PRel) (u:Value):Nat×Nat:=if q:∃c,D u c then Classical.choose q else(0,0)
def EsP (D:PRel)(es:List (Int×Value))(cs:List (Nat×Nat)):Prop:=(∀e∈es,∃c,e.1=prH c.1 c.2∧D e.2 c)∧(es.map fun e=>zhp D e.2).Perm cs
theorem EsP.len {D:PRel}{es:List (Int×Value)}{cs:List (Nat×Nat)}(x:EsP D es cs):es.length=cs.length:=by
 have:=x.2.length_eq
 rw[List.length_map] at this
 exact this
def PrSet (D:PRel)(h:Heap)(a:Addr)(b:Bool)(cs:List (Nat×Nat)):Prop:=∃o es ep t,h.get? a=some o∧o.ExactSet∧o.data=.set es ep t∧EsP D es.toList cs∧TabP b t es.size∧es.size+1≤t.mask
theorem PrSet.at {D:PRel}{h h':Heap}{a:Addr}{b:Bool}{cs:List (Nat×Nat)}(x:PrSet D h a b cs)(k:∀o,h.get? a=some o→h'.get? a=some o):PrSet D h' a b cs:=by
 obtain⟨o,es,ep,t,ho,r⟩:=x
 exact⟨o,es,ep,t,k _ ho,r⟩
theorem TabP.fits {b:Bool}{t:SetTable}{n:Nat}(T:TabP b t n):t.fits n=true:=by
 unfold SetTable.fits SetTable.fill
 rw[T.size,T.ok.dum]
 have:=T.room
 simp only[beq_self_eq_true,Bool.true_and,List.size_toArray,List.length_nil,Nat.add_zero]
 exact decide_eq_true this
section
variable {P:Program}{w:World}{A:Around}{E:Value→Shared→Prop}{s:Shared}
end
end
section
section
variable {P:Program}{w:World}{A:Around}{E:Value→Shared→Prop}{s:Shared}{R:Result→Shared→Prop}
end
end
section
def ValsP (D:PRel)(vs:List Value)(cs:List (Nat×Nat)):Prop:=(∀v∈vs,∃c,D v c)∧(vs.map (zhp D)).Perm cs
theorem ValsP.len {D:PRel}{vs:List Value}{cs:List (Nat×Nat)}(x:ValsP D vs cs):vs.length=cs.length:=by
 have:=x.2.length_eq
 rw[List.length_map] at this
 exact this
section
variable {P:Program}{w:World}{A:Around}{E:Value→Shared→Prop}{s:Shared}
end
end
section
def HPr (H:Hp)(v:V)(c:Nat×Nat):Prop:=∃q,v=.ref q∧H q=some (.tup [.int (c.1:Int),.int (c.2:Int)])
theorem HPr.at {X:Cx}{pins:List (Addr×Obj)}{σ:St}{H:Hp}{s:Shared}{v:V}{u:Value}{c:Nat×Nat}(I:Inv X pins σ H s)(h:HPr H v c)(r:RelV v u):PrAt s.heap u c:=by
 obtain⟨q,rfl,hq⟩:=h
 obtain rfl:u=Value.ref q:=r
 obtain⟨a,b,⟨t1,rfl⟩,⟨t2,rfl⟩,it⟩:=x3 I hq
 exact⟨q,t1,t2,rfl,it⟩
def cd (c:Nat×Nat):List Int:=[(c.1:Int),(c.2:Int)]
end
section
section
variable {P:Program}{w:World}{A:Around}{E:Value→Shared→Prop}{s:Shared}
end
end
section
end
section
end
section
def RecAt (h:Heap)(a C t:Addr)(fl:Value):Prop:=∃oe vs oT ts,h.get? a=some oe∧oe.cls=.ref C∧oe.data=.fields vs∧vs[1]?=some (.ref t)∧t≠a∧h.get? t=some oT∧oT.data=.fields ts∧ts[3]?=some fl
structure FlyA (X:Cx)(pins:List (Addr×Obj))(σ:St)(H:Hp)(s:Shared)(a C t:Addr)(fl:Value):Prop where
 inv:Inv X pins σ H s
 rc:RecAt s.heap a C t fl
 na:Nw X pins H a
 nt:Nw X pins H t
section
variable {X:Cx}{pins:List (Addr×Obj)}{σ:St}{H:Hp}{s:Shared}{a C t:Addr}{fl fl':Value}{h':Heap}
theorem FlyA.fly (F:FlyA X pins σ H s a C t .none):Fly X pins σ H s a C (some t):=by
 obtain⟨oe,vs,oT,ts,he,hc,hd,h1,hne,hT,hdT,h3⟩:=F.rc
 exact⟨F.inv,⟨oe,vs,he,hc,hd,h1,hne,oT,ts,hT,hdT,h3⟩,F.na,fun t' e=>by cases e;exact F.nt⟩
theorem FlyA.chs (F:FlyA X pins σ H s a C t fl):∀b∈a::(some t).toList,Nw X pins H b:=fun b hb=>by
 have hb:b=a∨b=t:=by simpa using hb
 rcases hb with rfl|rfl
 ·exact F.na
 ·exact F.nt
theorem FlyA.tr (F:FlyA X pins σ H s a C t fl):∃a0,s.heap.TracedAtW (qW X s.heap a (some t)) a (.ref C) a0 fl:=by
 obtain⟨oe,vs,oT,ts,he,hc,hd,h1,hne,hT,hdT,h3⟩:=F.rc
 have hsz:1<vs.size:=(Array.getElem?_eq_some_iff.mp h1).1
 exact⟨vs[0]'(by omega),oe,vs,t,oT,ts,he,⟨hc,Array.getElem?_eq_getElem (by omega)⟩,hd,h1,PySem.W.hideAll_none _ (by simp),hne,hT,hdT,h3⟩
theorem FlyA.ff (F:FlyA X pins σ H s a C t fl):s.heap.FunFrames (qW X s.heap a (some t)) X.stack:=
 PySem.W.funFrames_hide F.inv.stack fun env he b hb=>List.mem_append_right _ (List.mem_filterMap.mpr ⟨env,he,hb⟩)
theorem FlyA.st (F:FlyA X pins σ H s a C t fl):(qW X s.heap a (some t)).StaysIn s.heap:=fun b o e=>PySem.W.of_hideAll _ e
theorem FlyA.non (F:FlyA X pins σ H s a C t fl):(qW X s.heap a (some t)).get? a=none:=PySem.W.hideAll_none _ (by simp)
theorem FlyA.on (F:FlyA X pins σ H s a C t fl)(f:Full X){a0:Value}(st:(qW X s.heap a (some t)).StaysIn h')(ff:h'.FunFrames (qW X s.heap a (some t)) X.stack)(tr:h'.TracedAtW (qW X s.heap a (some t)) a (.ref C) a0 fl')(sl:s.heap.UpToSlots h') :
 ∃t',FlyA X pins σ H { s with heap:=h' } a C t' fl':=by
 have hch:=F.chs
 have I':Inv X pins σ H { s with heap:=h' }:=F.inv.news hch st sl s.toks
 obtain⟨oe,vs,t',oT,ts,he,⟨hcl,_⟩,hd,h1,hn,hne,hT,hdT,h3⟩:=tr
 refine⟨t',I',⟨oe,vs,oT,ts,he,hcl,hd,h1,hne,hT,hdT,h3⟩,F.na,?_⟩
 cases q:s.heap.get? t' with
 |none=>exact F.inv.nw f q
 |some o=>
  by_cases hm:t'∈(a::(some t).toList)++frs X.stack
  ·rcases List.mem_append.mp hm with z|z
   ·exact hch t' z
   ·obtain⟨_,o',ho',hnf⟩:=ff.mem z
    rw[hT] at ho';cases ho'
    exact absurd hdT (hnf ts)
  ·have:=PySem.W.hideAll_get _ q hm
   rw[hn] at this
   cases this
theorem FlyA.keepB {b:Addr}{o:Obj}(e:s.heap.get? b=some o)(n1:b≠a)(n2:b≠t)(n3:b∉frs X.stack)(st:(qW X s.heap a (some t)).StaysIn h'):h'.get? b=some o:=
 st b o (PySem.W.hideAll_get _ e fun z=>by
  rcases List.mem_append.mp z with z|z
  ·have z:b=a∨b=t:=by simpa using z
   exact z.elim n1 n2
  ·exact n3 z)
theorem FlyA.note (F:FlyA X pins σ H s a C t .none)(f:Full X){M:Model}{Q:Unit→Shared→Prop}{E:Value→Shared→Prop}
 (k:∀s' t',FlyA X pins σ H s' a C t' (rawInt X.env.locals)→(∀b o,s.heap.get? b=some o→b≠a→b≠t→b∉frs X.stack→s'.heap.get? b=some o)→(∀b o,s.heap.get? b=some o→t'=b→∃vs,o.data=.fields vs)→Q () s') :
 wpAny M X.A (noteFrame (.ref a) X.env) Q E s:=by
 have hfr:X.A.frames=some (X.env::X.outer):=by rw[←f.stk];exact F.inv.ok.frames
 obtain⟨a0,tr⟩:=F.tr
 refine wpAny_looks_onW hfr f.fr ⟨F.st,F.non,by rw[←f.stk];exact F.ff,tr⟩ fun h4 hh sl4=>?_
 obtain⟨k1,_,k3,k4⟩:=hh
 obtain⟨t',F'⟩:=F.on f k1 (by rw[f.stk];exact k3) k4 sl4
 refine k _ t' F' (fun b o e n1 n2 n3=>FlyA.keepB e n1 n2 n3 k1) fun b o e z=>?_
 subst z
 obtain⟨_,_,oT,ts,_,_,_,_,_,hT,hdT,_⟩:=F'.rc
 cases hh:o.data with
 |fields vs=>exact⟨vs,rfl⟩
 |_=>
  exfalso
  obtain⟨sl,q⟩:=sl4 t' o e fun vs z=>by rw[hh] at z;cases z
  have hT:h4.get? t'=some oT:=hT
  rw[hT] at q
  cases q
  rw[hh] at hdT
  cases hdT
theorem Inv.butC {D:Addr}(I:Inv X pins σ H s)(h1:X.s₀.heap.objs.size≤D)(h2:D≠X.env.locals)(h3:∀x c,X.env.cells.lookup x=some c→c≠D)(h4:∀p∈X.pn++pins,p.1≠D)(hH:H D=none)(hs:Heap.SameBut D s.heap h') :
 Inv X pins σ H { s with heap:=h' }:=by
 have ext:∀b o,b≠D→s.heap.get? b=some o→h'.get? b=some o:=fun b o n e=>hs.extBut b o n e
 have nin:∀{b:Addr},b∉[D]→b≠D:=fun n z=>n (by rw[z];exact List.mem_singleton.mpr rfl)
 refine I.call' (s':={ s with heap:=h' }) (ch:=[D]) rfl ⟨fun b o e n q1 q2=>ext b o (nin q2) e,fun b o e n q1 q2=>⟨o.slots,ext b o (nin q2) e⟩,fun b o e n q2=>n,fun b o e q2=>⟨o,ext b o (nin q2) e⟩,fun _ _ e=>e,fun _ _ _ e=>e,fun b ps e=>⟨#[],by rw[Array.append_empty];exact e⟩⟩ (fun b u e=>?_) I.bare fun b hb=>?_
 ·refine(I.hok b u e).stay (fun c v hc q=>ext c v ?_ q) (fun _ q=>q) fun _ _ q=>q
  rintro rfl
  rcases hc with z|z
  ·rw[←z,hH] at e;cases e
  ·rw[hH] at z;cases z
 ·have e:=List.mem_singleton.mp hb
  subst e
  exact⟨.inr h1,h2,h3,h4⟩
theorem FlyA.butC {D:Addr}(F:FlyA X pins σ H s a C t fl)(h1:X.s₀.heap.objs.size≤D)(h2:D≠X.env.locals)(h3:∀x c,X.env.cells.lookup x=some c→c≠D)(h4:∀p∈X.pn++pins,p.1≠D)(hH:H D=none)(ha:a≠D)(ht:t≠D)(hs:Heap.SameBut D s.heap h') :
 FlyA X pins σ H { s with heap:=h' } a C t fl:=by
 obtain⟨oe,vs,oT,ts,he,hc,hd,e1,hne,hT,hdT,e3⟩:=F.rc
 exact⟨F.inv.butC h1 h2 h3 h4 hH hs,⟨oe,vs,oT,ts,hs.extBut _ _ ha he,hc,hd,e1,hne,hs.extBut _ _ ht hT,hdT,e3⟩,F.na,F.nt⟩
theorem FlyA.pass (F:FlyA X pins σ H s a C t fl){M:Model}{A:Around}{cenv:Env}{L:Addr}(hc:cenv.frame=some L){what:String}{E':Value→Shared→Prop}(k:∀s',FlyA X pins σ H s' a C t (rawInt L)→E' (.ref a) s') :
 wpAny M A (passOn what (.ref a) cenv:Sem Value) (fun _ _=>False) E' s:=by
 obtain⟨oe,vs,oT,ts,he,hcl,hd,e1,hne,hT,hdT,e3⟩:=F.rc
 have hsz3:3<ts.size:=(Array.getElem?_eq_some_iff.mp e3).1
 unfold PySem.passOn
 refine wpAny_bind (wpAny_field he hd e1 ?_)
 rw[if_neg (show ¬((Value.ref t==Value.none)=true) from by simp)]
 refine wpAny_bind ?_
 rw[hc]
 unfold setFlight
 refine wpAny_bind (wpAny_field he hd e1 ?_)
 rw[if_pos (show(Value.ref t != Value.none)=true from by simp)]
 refine wpAny_setField hT hdT hsz3 ?_
 have other:∀b,b≠t→(s.heap.update t (Obj.mapFields (·.setIfInBounds 3 ((some L:Option Addr).elim Value.none fun f=>rawInt f)))).get? b=s.heap.get? b:=fun b hb=>Heap.get?_update_other _ _ (Ne.symm hb)
 have hTn:=Heap.get?_update_self (Obj.mapFields (·.setIfInBounds 3 ((some L:Option Addr).elim Value.none fun f=>rawInt f))) hT (Obj.isFreed_of_fields (Obj.data_mapFields hdT _))
 have notT:∀b o,s.heap.get? b=some o→(∀vs,o.data≠.fields vs)→b≠t:=fun b o hb hn q=>by
  rw[q,hT] at hb;injection hb with hb;subst hb;exact hn ts hdT
 refine wpAny_throw (k _ ⟨F.inv.news F.chs (fun b o e=>?_) (fun b o e hn=>⟨o.slots,(other b (notT b o e hn)).trans e⟩) s.toks,⟨oe,vs,_,_,(other a (Ne.symm hne)).trans he,hcl,hd,e1,hne,hTn,Obj.data_mapFields hdT _,by simp[hsz3]⟩,F.na,F.nt⟩)
 refine(other b fun z=>?_).trans (PySem.W.of_hideAll _ e)
 rw[z,PySem.W.hideAll_none _ (by simp)] at e
 cases e
theorem FlyA.out (F:FlyA X pins σ H s a C t (rawInt X.env.locals))(f:Full X){E:XK}{M:Model}{E':Value→Shared→Prop}(q:E (.ref C) none H) :
 wpAny M X.A (leaving X.env (.ref a)) (fun _ s'=>CXx X.prog X.w X.outer X.H₀ X.s₀ E (.ref a) s') E' s:=by
 obtain⟨a0,tr⟩:=F.tr
 unfold leaving
 refine wpAny_bind (wpAny_noteFrame_againW f.fr tr ?_)
 refine wpAny_landsW (l:=X.stack) ⟨F.st,F.non,F.ff,tr⟩ fun h5 fl5 sl5=>?_
 obtain⟨k1,_,k3,k4⟩:=fl5
 obtain⟨t',F'⟩:=F.on f k1 k3 k4 sl5
 have F'':=F'.fly
 exact⟨a,C,t',H,rfl,F''.inv.os,F''.inv.bare,by have:=F''.inv.base;rw[f.ex] at this;exact this,F''.inv.hok,F''.xrec,F''.na.1,(F''.nt t' rfl).1,F''.na.2.1,(F''.nt t' rfl).2.1,q⟩
end
end
section
def zdI (M:Model)(A:Around)(E:Value→Shared→Prop)(use:Option (Value→Sem Unit))(Q:Value→Shared→Prop)(acc:Value)(cenv:Env)(r:Result)(s':Shared):Prop:=
 match r with
 | .ok _=>(match use with
  |none=>∃m,s'.heap.Ns cenv.locals m∧∀h',Heap.SameBut cenv.locals s'.heap h'→Q acc { s' with heap:=h' }
  |some u=>wpAny M A (u acc) (fun _ s2=>∃m,s2.heap.Ns cenv.locals m∧∀h',Heap.SameBut cenv.locals s2.heap h'→Q .none { s2 with heap:=h' }) E s')
 | .error x=>∃m,s'.heap.Ns cenv.locals m∧∀h',Heap.SameBut cenv.locals s'.heap h'→∀c2:Env,c2.frame=cenv.frame→wpAny M A (PySem.passOn "comprehension.variables-let-go" x c2:Sem Value) (fun _ _=>False) E { s' with heap:=h' }
section
variable {M:Model}{A:Around}{E:Value→Shared→Prop}{s:Shared}{env:Env}
theorem gQ {e:Expr}{scope:Scope}{pos:Pos}{newAcc first:Sem Value}{g:Comprehension}{gs:List Comprehension}{cl:List (Str×Addr)}{use:Option (Value→Sem Unit)}{Q:Value→Shared→Prop}
 (e1:clausesOf e=g::gs) (e2:∀x,foldedSetIterable g.iter env x=pure x) (e3:closureFor scope env=pure cl) (kd:scope.kind=.function) (nms:∀x∈scope.names,x.2=.local→scope.names.lookup x.1=some .local)
 (h:wpAny M A first (fun x s1=>wpAny M A (pyIter x) (fun it s2=>wpAny M A newAcc (fun acc s3=>wpAny M A (newFunctionEnv scope env.globals cl [] env.qual none .none (some env)) (fun cenv s4=>
   codeAny M A (.compStart e 0 it acc { cenv with scope:=relabel scope env }) (zdI M A E use Q acc cenv) s4) E s3) E s2) E s1) E s):wpAny M A (comprehension e scope env pos newAcc false first use) Q E s:=by
 unfold comprehension
 rw[e3,e1]
 refine wpAny_bind (thn h fun x s1 h1=>wpAny_bind (wpAny_standAt (wpAny_bind (wpAny_of_eq (e2 x) ?_))))
 refine wpAny_bind (wpAny_holding (thn h1 fun it s2 h2=>wpAny_standIf (wpAny_bind (thn h2 fun acc s3 h3=>wpAny_bind (wpAny_pure (wpAny_bind (thn h3 fun cenv s4 h4=>?_)))))))
 dsimp only
 obtain⟨vr,hvr⟩:∃vr,(scope.names.filter fun x=>(x.2==.local||x.2==.cell)&&x.1 != (".0":Str))=vr:=⟨_,rfl⟩
 have hv:∀x∈vr.reverse,x.2=.local→Env.kindOf { cenv with scope:=relabel scope env } x.1=some .local:=fun x hx hl=>lookup_relabel_local (nms x (List.mem_filter.mp (hvr▸List.mem_reverse.mp hx)).1 hl)
 have hv2:∀x∈vr.reverse.drop 1++vr.reverse.take 1,x.2=.local→Env.kindOf { cenv with scope:=relabel scope env } x.1=some .local:=fun x hx hl=>
  (List.mem_append.mp hx).elim (fun z=>hv x (List.mem_of_mem_drop z) hl) fun z=>hv x (List.mem_of_mem_take z) hl
 refine wpAny_holding (wpAny_bind (wpAny_attempt (wpAny_holding (wpAny_run (codeAny_mono h4 fun r s5 hr=>?_)))))
 cases r with
 |ok f=>
  cases use with
  |none=>
   obtain⟨m,hn,q⟩:=hr
   refine wpAny_bind (wpAny_holding (wpAny_comp_letGo (cenv:={ cenv with scope:=relabel scope env }) kd _ s5 m (by rw[hvr];exact hv) hn fun h6 m6 _ sb=>wpAny_pure (q h6 sb)))
  |some u=>
   refine wpAny_bind (wpAny_rule (wpAny_bind (wpAny_holding (thn hr fun _ s6 h6=>?_))))
   obtain⟨m,hn,q⟩:=h6
   refine wpAny_bind (wpAny_comp_letGo (cenv:={ cenv with scope:=relabel scope env }) kd _ s6 m (by rw[hvr];exact hv2) hn fun h7 m7 _ sb=>wpAny_pure (q h7 sb))
 |error x=>
  obtain⟨m,hn,q⟩:=hr
  refine wpAny_bind (wpAny_holding (wpAny_comp_letGo (cenv:={ cenv with scope:=relabel scope env }) kd _ s5 m (by rw[hvr];exact hv) hn fun h6 m6 _ sb=>?_))
  exact wpAny_mono (q h6 sb _ rfl) (fun _ _ z=>z.elim) fun _ _ y=>y
end
section
variable {X:Cx}{elt tg iter:Expr}{ifs:List Expr}{gens:List Comprehension}{scope:Scope}{pos:Pos}{d:Nat}{acc:Value}
theorem zbb {g:TG}{t:TT}{b:TB}{N:St→Hp→Prop}{J:It}{fp:List Addr}{it:Addr}{tn:Nat→Heap→Prop}{pins:List (Addr×Obj)}{s:Shared}{σ:St}{H:Hp}{RE:Value→Shared→Prop}
 (hx:∀e s',X.xe e s'→notedBy (model X.prog X.w) X.A X.env RE e s') (hc:X.calm=true) (hg:gens[d]?=some ⟨tg,iter,ifs,0⟩) (hgt:PG X tg g) (ht:PTs X ifs t) (hb:PAf X elt gens scope pos d (.ref it) acc b)
 (T:Turn X.prog X.w X.K tg J fp it tn) (I:Inv X pins σ H s) (st:tn 0 s.heap) (f2:∀b∈fp,qa X pins H b) (w:vO J g t b N σ H) :
 codeAny (model X.prog X.w) X.A (.compLoop (.ListComp elt gens scope pos) d (.ref it) acc X.env) (fun r s'=>match r with | .ok _=>∃σ' H',Inv X pins σ' H' s'∧N σ' H' | .error e=>RE e s') s:=by
 obtain⟨W,⟨m0,w0⟩,turn⟩:=w
 have stat:∀{H':Hp},(∀b∈fp,H' b=none)→∀b∈fp,qa X pins H' b:=fun hn b hb=>⟨hn b hb,(f2 b hb).2⟩
 refine codeAny_loop rfl (fun n s'=>∃i σ' H',Inv X pins σ' H' s'∧tn i s'.heap∧(∀b∈fp,H' b=none)∧W i n σ' H') ?_ m0 ⟨0,σ,H,I,st,fun b hb=>(f2 b hb).1,w0⟩
 rintro n s3 ⟨i,σ3,H3,I3,st3,fr3,w3⟩
 show wpAny _ X.A ((compTurn (.ListComp elt gens scope pos) d (.ref it) acc X.env).onRaise (fun x=>do noteFrame x X.env;theTreesLotGoes x)) _ _ s3
 refine wpAny_noted ?_
 rw[xa _ _ _ _ _ _ _ _ _ _ _ hg]
 have weak:∀{α:Type}{m:Sem α}{Q Q':α→Shared→Prop}{s:Shared},wpAny (model X.prog X.w) X.A m Q X.xe s→(∀a s,Q a s→Q' a s)→wpAny (model X.prog X.w) X.A m Q' (notedBy (model X.prog X.w) X.A X.env fun e s'=>RE e s') s:=fun h hQ=>wpAny_mono h hQ fun e s' z=>hx e s' z
 refine wpAny_bind (wpAny_standAt (wpAny_bind ?_))
 rcases turn i n σ3 H3 w3 with⟨stop,qn⟩|⟨go,N',hN,step⟩
 ·refine weak (T.done X rfl rfl rfl hc i pins s3 σ3 H3 X.xe I3 (stat fr3) st3 stop) fun r s4 ⟨hr,I4⟩=>?_
  subst hr
  exact wpAny_pure ⟨σ3,H3,I4,qn⟩
 ·refine weak (T.item X rfl rfl rfl hc i pins s3 σ3 H3 X.xe I3 (stat fr3) st3 go) fun r s4 ⟨u,hr,h4⟩=>?_
  subst hr
  refine wpAny_bind (weak h4 fun _ s5 ⟨x,H5,I5,r5,y5,st5,fr5⟩=>?_)
  have I5':=I5.pinned (stat fr5) (T.obj _ _ st5)
  refine wpAny_bind (weak (hgt _ s5 σ3 H5 x u _ I5' r5 (step x H5 y5)) fun _ s6 ⟨σ6,H6,I6,q6⟩=>?_)
  refine wpAny_bind (weak (ht _ s6 σ6 H6 _ I6 q6) fun k s7 ⟨H7,I7,q7⟩=>?_)
  have again:∀{s8:Shared}{σ8:St}{H8:Hp},Inv X (pins++wb fp s5.heap) σ8 H8 s8→N' σ8 H8→∃m,m<n∧∃i σ' H',Inv X pins σ' H' s8∧tn i s8.heap∧(∀b∈fp,H' b=none)∧W i m σ' H':=fun {s8 σ8 H8} I8 n8=>by
   obtain⟨m',hm,w8⟩:=hN σ8 H8 n8
   refine⟨m',hm,i+1,σ8,H8,I8.unpinned,T.keep _ _ _ st5 fun b hb o e=>(I8.pin (b,o) (List.mem_append_right _ (List.mem_append_right _ (zR hb e)))).1,fun b hb=>?_,w8⟩
   obtain⟨o,e,d⟩:=T.obj _ _ st5 b hb
   exact(I8.pin (b,o) (List.mem_append_right _ (List.mem_append_right _ (zR hb e)))).2.1
  cases k with
  |false=>exact wpAny_pure ⟨rfl,again I7 q7⟩
  |true=>
   refine weak (hb _ s7 σ6 H7 N' I7 q7) fun fin s8 ⟨e,σ8,H8,I8,q8⟩=>?_
   subst e
   exact⟨rfl,again I8 q8⟩
end
def XB (X:Cx)(pins:List (Addr×Obj))(σ:St)(D:Addr)(E:XK)(fl:Value)(e:Value)(s':Shared):Prop:=
 ∃a Cx t H',e=.ref a∧E (.ref Cx) none H'∧FlyA X pins σ H' s' a Cx t fl∧a≠D∧t≠D∧H' D=none∧∃m,s'.heap.Ns D m
abbrev Cx.blkX (X:Cx)(N:List Str)(scope:Scope)(cl:List (Str×Addr))(D:Addr)(s3:Shared)(H3:Hp)(fp:List Addr)(pins:List (Addr×Obj))(σ:St)(E:XK):Cx:=
 { X.blk N scope cl D s3 H3 fp with xe:=XB X pins σ D E .none }
structure bP (X:Cx)(pins:List (Addr×Obj))(σ:St)(D:Addr)(s3:Shared)(H3:Hp)(fp:List Addr):Prop where
 inv:Inv X pins σ H3 s3
 fpo:∀b∈fp,qa X pins H3 b
 sz:s3.heap.objs.size=D
theorem Inv.withXe {X:Cx}{pins:List (Addr×Obj)}{σ:St}{H:Hp}{s:Shared}{x:Value→Shared→Prop}(I:Inv X pins σ H s):Inv { X with xe:=x } pins σ H s:=by
 obtain⟨ok,a1,a2,a3,a4,a5,a6,a7,a8,a9,a10⟩:=I
 obtain⟨b1,b2,b3,b4,b5,b6,b7,b8,b9,b10,b11,b12,b13,b14,b15,b16,b17,b18⟩:=ok
 exact⟨⟨b1,b2,b3,b4,b5,b6,b7,b8,b9,b10,b11,b12,b13,b14,b15,b16,b17,b18⟩,a1,a2,a3,a4,a5,a6,a7,a8,a9,a10⟩
section
variable {X:Cx}{N:List Str}{scope:Scope}{cl:List (Str×Addr)}{D:Addr}{s3:Shared}{H3:Hp}{fp:List Addr}{pins:List (Addr×Obj)}{σ:St}{E E':XK}
theorem zfT (f:Full X)(hB:bP X pins σ D s3 H3 fp)(h:∀c d H',E' c d H'→E c d H'):je (CXx X.prog X.w) (X.blkX N scope cl D s3 H3 fp pins σ E) E':=by
 intro pn σB H s e s' I hcx
 have I0:Inv (X.blk N scope cl D s3 H3 fp) [] σB H s:=by
  have I1:Inv (X.blk N scope cl D s3 H3 fp) pn σB H s:=Inv.withXe (x:=fun _ _=>False) I
  exact I1.pins_of fun p hp=>nomatch hp
 have IX:Inv X pins σ H s:=kP (h':=s.heap) hB.inv I0 hB.fpo (.refl ..) hB.sz
 obtain⟨a,C,t,H',rfl,os,bare,un,hok,xr,na,nt,ha,ht,q⟩:=hcx
 obtain⟨m,⟨o,es,ep,ho,hr⟩,_⟩:=I0.loc
 have ho:s.heap.get? D=some o:=ho
 have hD:H D=none:=I0.free
 have hnf:D∉frs X.stack:=fun z=>by
  obtain⟨_,o',ho',_⟩:=hB.inv.stack.mem z
  exact Nat.lt_irrefl _ (hB.sz▸Heap.lt_size ho')
 have F:FlyA X pins σ H' s' a C t .none:=by
  obtain⟨oe,vs,he,hc,hd,h1,hne,oT,ts,hT,hdT,h3⟩:=xr
  obtain⟨n1,_,n3⟩:=IX.nw f na
  obtain⟨n4,_,n6⟩:=IX.nw f nt
  exact⟨IX.call' os un hok bare (fun b z=>absurd z (by simp)),⟨oe,vs,oT,ts,he,hc,hd,h1,hne,hT,hdT,h3⟩,⟨n1,ha,n3⟩,⟨n4,ht,n6⟩⟩
 refine⟨a,C,t,H',rfl,h _ _ _ q,F,fun z=>?_,fun z=>?_,un.free D o ho hD (by simp),m,o,es,ep,un.keep D o ho hD hnf (by simp),hr⟩
 ·rw[z,ho] at na;cases na
 ·rw[z,ho] at nt;cases nt
theorem zhw (f:Full X)(hB:bP X pins σ D s3 H3 fp)(e:Value)(s':Shared)(h:XB X pins σ D E .none e s') :
 notedBy (model X.prog X.w) X.A (compEnvC scope cl D X.env) (XB X pins σ D E (rawInt X.env.locals)) e s':=by
 obtain⟨a,C,t,H',rfl,q,F,na,nt,hD,m,o,es,ep,ho,hd,hr⟩:=h
 have hnf:D∉frs X.stack:=fun z=>by
  obtain⟨_,o',ho',_⟩:=hB.inv.stack.mem z
  exact Nat.lt_irrefl _ (hB.sz▸Heap.lt_size ho')
 show wpAny _ X.A (noteFrame (.ref a) (compEnvC scope cl D X.env)) _ _ s'
 have e0:noteFrame (.ref a) (compEnvC scope cl D X.env)=noteFrame (.ref a) X.env:=rfl
 rw[e0]
 refine F.note f fun s2 t2 F2 kp kt=>⟨a,C,t2,H',rfl,q,F2,na,fun z=>?_,hD,m,o,es,ep,kp D o ho (Ne.symm na) (Ne.symm nt) hnf,hd,hr⟩
 obtain⟨vs,z2⟩:=kt D o ho z
 rw[hd] at z2;cases z2
end
section
variable {X:Cx}{elt tg iter:Expr}{ifs:List Expr}{rest:List Comprehension}{scope:Scope}{pos:Pos}{N:List Str}{cap:List (Option Nat)}{wi:TI}{g:TG}{t:TT}{b:Addr→TB}{E:XK}
theorem yT {pins:List (Addr×Obj)}{σ:St}{Q:VK}{s2:Shared}{itv:Value}{cl:List (Str×Addr)}{RR:Value→Env→Result→Shared→Prop}(f:Full X)(hc:X.calm=true)(ok:yW X.N X.env.scope N cap scope)
 (cl1:∀x c,cl.lookup x=some c→X.env.cells.lookup x=some c) (cl2:∀x∈scope.names,x.2=.free→∃c,cl.lookup x.1=some c)
 (hb:∀cl D s3 H3 fp pn σ0,bP X pn σ0 D s3 H3 fp→PG (X.blkX N scope cl D s3 H3 fp pn σ0 E) tg g∧PTs (X.blkX N scope cl D s3 H3 fp pn σ0 E) ifs t∧∀it acc,PAf (X.blkX N scope cl D s3 H3 fp pn σ0 E) elt (⟨tg,iter,ifs,0⟩::rest) scope pos 0 (.ref it) (.ref acc) (b acc))
 (h:PIE X pins σ tg (fun J H1=>∀acc,H1 acc=none→vO J g t (b acc) (fun _ H2=>Q (.ref acc) H2) (vP cap σ) (upd H1 acc (.lst []))) itv s2)
 (hR:∀(acc:Addr) (cenv:Env) (H':Hp) (s':Shared) (m:Str→Option Value),s'.heap.Ns cenv.locals m→H' cenv.locals=none→X.s₀.heap.objs.size≤cenv.locals→cenv.locals≠X.env.locals→(∀x c,X.env.cells.lookup x=some c→c≠cenv.locals)→(∀p∈X.pn++pins,p.1≠cenv.locals)→(∀h',Heap.SameBut cenv.locals s'.heap h'→Inv X pins σ H' { s' with heap:=h' })→Q (.ref acc) H'→RR (.ref acc) cenv (.ok .next) s')
 (hE:∀(acc:Addr) (cenv:Env) (e:Value) (s':Shared),cenv.frame=X.env.frame→X.s₀.heap.objs.size≤cenv.locals→cenv.locals≠X.env.locals→(∀x c,X.env.cells.lookup x=some c→c≠cenv.locals)→(∀p∈X.pn++pins,p.1≠cenv.locals)→XB X pins σ cenv.locals E (rawInt X.env.locals) e s'→RR (.ref acc) cenv (.error e) s') :
 wpAny (model X.prog X.w) X.A (newList []) (fun acc s₃=>wpAny (model X.prog X.w) X.A (newFunctionEnv scope X.env.globals cl [] X.env.qual none .none (some X.env)) (fun cenv s₄=>
  codeAny (model X.prog X.w) X.A (.compStart (.ListComp elt (⟨tg,iter,ifs,0⟩::rest) scope pos) 0 itv acc { cenv with scope:=relabel scope X.env }) (fun r s'=>match r with | .ok _=>RR acc cenv (.ok .next) s' | .error e=>RR acc cenv (.error e) s') s₄) X.xe s₃) X.xe s2:=by
 obtain⟨it,fp,tn,J,H2,e,I2,T,st2,f2,q⟩:=h
 subst e
 refine wpAny_newObj_type (wpAny_newFunctionEnv ok.cell (by intro y hy;simp at hy) (fun h₁ hns₁ hsb₁=>?_) ok.kind)
 dsimp only at hns₁ hsb₁ ⊢
 have I3:=I2.lnew (its:=[]) (ys:=[]) (t':=s2.toks) .nil (Nat.zero_le _)
 have fr:H2 s2.heap.objs.size=none:=I2.hok.fresh (Nat.le_refl _)
 have hlt:∀b∈fp,b<s2.heap.objs.size:=fun b hb=>by
  obtain⟨o,e,_⟩:=T.obj 0 _ st2 b hb
  exact Heap.lt_size e
 generalize hS3:({ s2 with heap:=s2.heap.push { cls:=.type "list",dict:=none,data:=.seq ([]:List Value).toArray } }:Shared)=s3 at *
 have hS:s3.heap=s2.heap.push { cls:=.type "list",dict:=none,data:=.seq ([]:List Value).toArray }:=by rw[←hS3]
 have hsz:s3.heap.objs.size=s2.heap.objs.size+1:=by rw[hS,Heap.size_push]
 have I3':Inv X pins σ (upd H2 s2.heap.objs.size (.lst [])) s3:=I3
 have hf3:∀b∈fp,qa X pins (upd H2 s2.heap.objs.size (.lst [])) b∧b<s3.heap.objs.size:=fun b hb=>by
  have hl:=hlt b hb
  refine⟨⟨?_,(f2 b hb).2⟩,?_⟩
  ·rw[zf (Nat.ne_of_lt hl)];exact(f2 b hb).1
  ·rw[hsz];exact Nat.lt_succ_of_lt hl
 rw[←hS] at hns₁ hsb₁
 have kp:∀b o,s3.heap.get? b=some o→h₁.get? b=some o:=fun b o e=>hsb₁.extBut b o (Nat.ne_of_lt (Heap.lt_size e)) (Heap.get?_push_of_some _ e)
 have kp2:∀b o,s2.heap.get? b=some o→h₁.get? b=some o:=fun b o e=>kp b o (by rw[hS];exact Heap.get?_push_of_some _ e)
 rw[←hS]
 have hB:bP X pins σ s3.heap.objs.size s3 (upd H2 s2.heap.objs.size (.lst [])) fp:=⟨I3',fun b hb=>(hf3 b hb).1,rfl⟩
 obtain⟨hb1,hb2,hb3⟩:=hb cl s3.heap.objs.size s3 (upd H2 s2.heap.objs.size (.lst [])) fp pins σ hB
 show codeAny _ _ (.compStart _ 0 (.ref it) (.ref s2.heap.objs.size) (compEnvC scope cl s3.heap.objs.size X.env)) _ _
 have I4:Inv (X.blkX N scope cl s3.heap.objs.size s3 (upd H2 s2.heap.objs.size (.lst [])) fp pins σ E) [] (vP cap σ) (upd H2 s2.heap.objs.size (.lst [])) { s3 with heap:=h₁,toks:=s3.toks }:=
  Inv.withXe (zbc (tk:=s3.toks) I3' ok cl1 cl2 hf3 rfl hns₁ kp)
 have f4:∀b∈fp,qa (X.blkX N scope cl s3.heap.objs.size s3 (upd H2 s2.heap.objs.size (.lst [])) fp pins σ E) [] (upd H2 s2.heap.objs.size (.lst [])) b:=fun b hb=>by
  obtain⟨⟨g0,g1,g2,g3,g4,g5⟩,g6⟩:=hf3 b hb
  refine⟨g0,Nat.ne_of_lt g6,fun z=>?_,.inl hb,fun x c e=>g4 x c (cl1 x c e),fun p hp=>nomatch hp⟩
  rcases List.mem_cons.mp (I3'.stkSub b z) with z|z
  ·exact g1 z
  ·exact g2 z
 have st4:tn 0 h₁:=T.keep 0 _ _ st2 fun b hb o e=>kp2 b o e
 have nc:∀x c,X.env.cells.lookup x=some c→c≠s3.heap.objs.size:=fun x c e=>by
  obtain⟨v,z⟩:=I3'.cell x c e
  exact Nat.ne_of_lt z.lt
 have np:∀p∈X.pn++pins,p.1≠s3.heap.objs.size:=fun p hp=>Nat.ne_of_lt (Heap.lt_size (I3'.pin p hp).1)
 have lp:∀(cenv:Env),cenv.locals=s3.heap.objs.size→cenv.frame=X.env.frame→∀s4:Shared,s4={ s3 with heap:=h₁,toks:=s3.toks }→codeAny (model X.prog X.w) X.A (.compLoop (.ListComp elt (⟨tg,iter,ifs,0⟩::rest) scope pos) 0 (.ref it) (.ref s2.heap.objs.size) (compEnvC scope cl s3.heap.objs.size X.env)) (fun r s'=>match r with | .ok _=>RR (.ref s2.heap.objs.size) cenv (.ok .next) s' | .error e=>RR (.ref s2.heap.objs.size) cenv (.error e) s') s4:=by
  intro cenv hl hfr s4 e4
  rw[e4]
  have lp:=zbb (X:=X.blkX N scope cl s3.heap.objs.size s3 (upd H2 s2.heap.objs.size (.lst [])) fp pins σ E) (d:=0) (N:=fun _ H2'=>Q (.ref s2.heap.objs.size) H2') (RE:=XB X pins σ s3.heap.objs.size E (rawInt X.env.locals)) (fun e s' z=>zhw f hB e s' z) hc rfl hb1 hb2 (hb3 it s2.heap.objs.size) T I4 st4 f4 (q _ fr)
  refine codeAny_mono lp fun r s' hr=>?_
  cases r with
  |error e=>exact hE _ cenv e s' hfr (by rw[hl];exact I3'.sz) (by rw[hl];exact Nat.ne_of_gt I3'.lt) (by rw[hl];exact nc) (by rw[hl];exact np) (by rw[hl];exact hr)
  |ok f'=>
   obtain⟨σ',H',I',q'⟩:=hr
   have I':Inv (X.blk N scope cl s3.heap.objs.size s3 (upd H2 s2.heap.objs.size (.lst [])) fp) [] σ' H' s':=Inv.withXe (x:=fun _ _=>False) I'
   obtain⟨m,hn,_⟩:=I'.loc
   exact hR _ cenv H' s' m (by rw[hl];exact hn) (by rw[hl];exact I'.free) (by rw[hl];exact I3'.sz) (by rw[hl];exact Nat.ne_of_gt I3'.lt) (by rw[hl];exact nc) (by rw[hl];exact np) (fun h' hs=>kP I3' I' (fun b hb=>(hf3 b hb).1) (by rw[hl] at hs;exact hs) rfl) q'
 obtain⟨ce,hce⟩:∃ce,ce=newEnv scope s3.heap.objs.size X.env.globals cl X.env.qual none Value.none (some X.env) builtinsNs:=⟨_,rfl⟩
 rw[←hce]
 refine vy rfl (lp ce (by rw[hce];rfl) (by rw[hce];rfl) _ ?_) (T.self _ 0 _ _ _ st4 (lp ce (by rw[hce];rfl) (by rw[hce];rfl) _ ?_))
 ·rw[←hS3];rfl
 ·rw[←hS3];rfl
def zfE (X:Cx)(E:XK):Prop:=∀(pins:List (Addr×Obj)) (σ:St) (H:Hp) (s:Shared) (a C t:Addr),FlyA X pins σ H s a C t (rawInt X.env.locals)→E (.ref C) none H→X.xe (.ref a) s
theorem zhG (f:Full X)(ox:zfE X E){pins:List (Addr×Obj)}{σ:St}{cenv:Env}{e:Value}{s':Shared}(hfr:cenv.frame=X.env.frame)(h1:X.s₀.heap.objs.size≤cenv.locals)(h2:cenv.locals≠X.env.locals)
 (h3:∀x c,X.env.cells.lookup x=some c→c≠cenv.locals) (h4:∀p∈X.pn++pins,p.1≠cenv.locals) (h:XB X pins σ cenv.locals E (rawInt X.env.locals) e s') :
 ∃m,s'.heap.Ns cenv.locals m∧∀h',Heap.SameBut cenv.locals s'.heap h'→∀c2:Env,c2.frame=cenv.frame→wpAny (model X.prog X.w) X.A (PySem.passOn "comprehension.variables-let-go" e c2:Sem Value) (fun _ _=>False) X.xe { s' with heap:=h' }:=by
 obtain⟨a,C,t,H',rfl,q,F,na,nt,hD,m,hn⟩:=h
 refine⟨m,hn,fun h' hs c2 hc2=>?_⟩
 exact(F.butC h1 h2 h3 h4 hD na nt hs).pass (L:=X.env.locals) (by rw[hc2,hfr];exact f.fr) fun s2 F2=>ox pins σ H' s2 a C t F2 q
theorem zdR (f:Full X)(ox:zfE X E)(hc:X.calm=true)(hok:zU X.N X.env.scope N cap scope=true)(hi:PI X tg iter wi)
 (hb:∀cl D s3 H3 fp pn σ0,bP X pn σ0 D s3 H3 fp→PG (X.blkX N scope cl D s3 H3 fp pn σ0 E) tg g∧PTs (X.blkX N scope cl D s3 H3 fp pn σ0 E) ifs t∧∀it acc,PAf (X.blkX N scope cl D s3 H3 fp pn σ0 E) elt (⟨tg,iter,ifs,0⟩::rest) scope pos 0 (.ref it) (.ref acc) (b acc))
 (hs:∀x,foldedSetIterable iter X.env x=pure x:=by intro _;rfl):PE X (.ListComp elt (⟨tg,iter,ifs,0⟩::rest) scope pos) (pG wi cap g t b):=by
 intro pins s σ H Q I h
 have ok:=yy hok
 obtain⟨cl,e0,cl1,cl2⟩:=yc I ok
 rw[eval_ListComp]
 refine gQ (use:=none) rfl hs e0 ok.kind ok.names (thn (hi pins s σ H _ I h) fun v s1 h1=>thn h1 fun itv s2 h2=>?_)
 refine thn (yT (RR:=fun acc cenv=>zdI (model X.prog X.w) X.A X.xe none (EP X pins σ Q) acc cenv) f hc ok cl1 cl2 hb h2 ?_ ?_) fun acc s3 h3=>thn h3 fun cenv s4 h4=>codeAny_mono h4 fun r s' hr=>?_
 ·intro acc cenv H' s' m hn _ _ _ _ _ hI q
  exact⟨m,hn,fun h' hs'=>⟨.ref acc,H',hI h' hs',rfl,q⟩⟩
 ·intro acc cenv e s' hfr k1 k2 k3 k4 z
  exact zhG f ox hfr k1 k2 k3 k4 z
 ·cases r<;>exact hr
theorem p8 {i:Nat}{y:Str}{py spos:Pos}(f:Full X)(ox:zfE X E)(hc:X.calm=true)(hok:zU X.N X.env.scope N cap scope=true)(hN:X.N.Nodup)(hy:X.N[i]?=some y)(hx:X.env.scope.names.lookup y=some .local)(hi:PI X tg iter wi)
 (hb:∀cl D s3 H3 fp pn σ0,bP X pn σ0 D s3 H3 fp→PG (X.blkX N scope cl D s3 H3 fp pn σ0 E) tg g∧PTs (X.blkX N scope cl D s3 H3 fp pn σ0 E) ifs t∧∀it acc,PAf (X.blkX N scope cl D s3 H3 fp pn σ0 E) elt (⟨tg,iter,ifs,0⟩::rest) scope pos 0 (.ref it) (.ref acc) (b acc))
 (hs:∀x,foldedSetIterable iter X.env x=pure x:=by intro _;rfl)
 (hsw:swapsWith (.ListComp elt (⟨tg,iter,ifs,0⟩::rest) scope pos) (some (.Name y py)) spos.line X.env=pure true:=by rfl) :
 PS X (.Assign [.Name y py] (.ListComp elt (⟨tg,iter,ifs,0⟩::rest) scope pos) spos) (zeP (pG wi cap g t b) (zq i)):=by
 intro pins s σ H D I h
 have ok:=yy hok
 obtain⟨cl,e0,cl1,cl2⟩:=yc I ok
 rw[exec_Assign_Name_used _ _ _ _ hsw]
 refine wpAny_bind (wpAny_standAt (wpAny_bind ?_))
 show wpAny _ X.A (do let _ ←comprehension (.ListComp elt (⟨tg,iter,ifs,0⟩::rest) scope pos) scope X.env _ (newList []) false (eval iter X.env) (some (assign (.Name y py) X.env))) _ _ s
 refine wpAny_bind (wpAny_mono (gQ (use:=some (assign (.Name y py) X.env)) (Q:=fun _ s'=>SP X pins D .next s') rfl hs e0 ok.kind ok.names
  (thn (hi pins s σ H _ I h) fun v s1 h1=>thn h1 fun itv s2 h2=>?_)) (fun _ s' hq=>wpAny_pure (wpAny_pure hq)) fun _ _ e=>e)
 refine thn (yT (RR:=fun acc cenv=>zdI (model X.prog X.w) X.A X.xe (some (assign (.Name y py) X.env)) (fun _ s'=>SP X pins D .next s') acc cenv) (Q:=fun v H2=>D.nx (σ.set i (some v)) H2) f hc ok cl1 cl2 hb h2 ?_ ?_) fun acc s3 h3=>thn h3 fun cenv s4 h4=>codeAny_mono h4 fun r s' hr=>?_
 ·intro acc cenv H' s' m hn hfr hC1 hC2 hC3 hC4 hI q
  have I':Inv X pins σ H' s':=hI s'.heap (.refl ..)
  show wpAny _ _ (assign (.Name y py) X.env (.ref acc)) _ _ s'
  refine wpAny_assign_Name (xq I' hN hy (.inl hx) (v:=.ref acc) rfl (fun s2 I2 ⟨a,hsa,ha⟩=>?_) (.inr hx))
  have haC:cenv.locals≠a:=by
   rcases ha with z|z
   ·rw[z];exact hC2
   ·exact Ne.symm (hC3 y a z)
  refine⟨m,hn.sameBut hsa haC,fun h' hs'=>?_⟩
  exact⟨_,H',I2.turned (it:=cenv.locals) (t':=s2.toks) (fun b o hb e=>hs'.extBut b o hb e) hfr hC2 (.inr hC1) hC3 hC4,q⟩
 ·intro acc cenv e s' hfr k1 k2 k3 k4 z
  exact zhG f ox hfr k1 k2 k3 k4 z
 ·cases r<;>exact hr
end
theorem zhs {P:Program}{w:World}{K:PySem.W.Frag}{mg:Str→Option Value}{base:Heap}{N:List Str}{qual:Str}{scope:Scope}{f:Addr}{cd:Value}{A:Around}{outer:List Env}{s:Shared}{H:Hp}{E:XK} :
 zfE (v9 (CXx P w) P w K mg base N qual scope f cd A outer s H E) E:=fun pins σ H1 s1 a C t F q=>F.out zM q
end
section
def wkV:V→V
 | .tst x _=>.str x
 |v=>v
theorem RelV.wk {v:V}{u:Value}(r:RelV v u):RelV (wkV v) u:=by
 cases v with
 |tst x t=>exact⟨t,r⟩
 |_=>exact r
section
variable {X:Cx}
def tWk (te:TE):TE:=fun σ H Q=>te σ H fun v H1=>Q (wkV v) H1
theorem jx {e:Expr}{te:TE}(h:PE X e te):PE X e (tWk te):=fun pins s σ H Q I q=>thn (h pins s σ H _ I q) fun u s1 ⟨v,H1,I1,r,q1⟩=>⟨wkV v,H1,I1,r.wk,q1⟩
def ShV (v:V)(z:Str):Prop:=(∃i:Int,v=.int i∧i.natAbs.log2<1920∧z=toString i∧z.length≤sizeLine)∨(v=.str z∧z.length≤sizeLine)
theorem zam {pins:List (Addr×Obj)}{σ:St}{H:Hp}{s:Shared}{A:Around}{E:Value→Shared→Prop}{v:V}{u:Value}{z:Str}{Q:Value→Shared→Prop}(I:Inv X pins σ H s)(r:RelV v u)(h:ShV v z)
 (k:∀t s',Inv X pins σ H s'→Q (.str z t) s'):wpAny (model X.prog X.w) A (formatField u Str.empty) Q E s:=by
 rcases h with⟨i,rfl,h1,rfl,_⟩|⟨rfl,h2⟩
 ·obtain⟨t,rfl⟩:=r
  exact formatField_int_small h1 (k _ _ (I.tok _))
 ·obtain⟨t,rfl⟩:=r
  exact formatField_str (fun t' tk=>k _ _ (I.tok _)) h2
def zh3 (c:Str)(t1 t2:TE):TE:=fun σ H Q=>t1 σ H fun x H1=>∃a,ShV x a∧a.length+c.length≤sizeLine∧t2 σ H1 fun y H2=>∃b,ShV y b∧a.length+c.length+b.length≤sizeLine∧Q (.str (a++c++b)) H2
theorem empty_app (a:Str):Str.empty++a=a:=by
 obtain⟨⟨a⟩⟩:=a
 show Str.mk (#[]++⟨a⟩)=_
 simp
theorem zdP {e1 e2:Expr}{c:Str}{k:Nat}{p1 p2 p3 pos:Pos}{t1 t2:TE}(h1:PE X e1 t1)(h2:PE X e2 t2) :
 PE X (.JoinedStr [.FormattedValue e1 (-1) none p1,.Constant (.str c) k p2,.FormattedValue e2 (-1) none p3] pos) (zh3 c t1 t2):=by
 intro pins s σ H Q I h
 refine JoinedStr_many (joinParts_cons (FormattedValue_plain (thn (h1 pins s σ H _ I h) fun u s1 ⟨x,H1,I1,r1,a,ha,hac,q1⟩=>zam I1 r1 ha fun t s2 I2=>?_)))
 have hla:a.length≤sizeLine:=by omega
 show(Str.empty++a).length≤sizeLine∧wpAny (model X.prog X.w) X.A (joinParts (Str.empty++a) (eval (Expr.Constant (Const.str c) k p2) X.env::evalEach [e2.FormattedValue (-1) none p3] X.env)) (EP X pins σ Q) X.xe s2
 rw[empty_app]
 refine⟨hla,joinParts_cons (Calls.Constant_str ?_)⟩
 show(a++c).length≤sizeLine∧wpAny (model X.prog X.w) X.A (joinParts (a++c) (eval (e2.FormattedValue (-1) none p3) X.env::evalEach [] X.env)) (EP X pins σ Q) X.xe { s2 with toks:=s2.toks+1 }
 refine⟨by rw[strLen_append];exact hac,joinParts_cons (FormattedValue_plain (thn (h2 pins _ σ H1 _ (I2.tok _) q1) fun u s4 ⟨y,H2,I4,r4,b,hb,hz,q⟩=>zam I4 r4 hb fun t s5 I5=>?_))⟩
 show((a++c)++b).length≤sizeLine∧wpAny (model X.prog X.w) X.A (joinParts ((a++c)++b) []) (EP X pins σ Q) X.xe s5
 refine⟨by rw[strLen_append,strLen_append];omega,joinParts_nil ⟨.str (a++c++b),H2,I5.tok _,⟨_,rfl⟩,q⟩ (by rw[strLen_append,strLen_append];omega)⟩
def zhe:R2:=fun x y H Q=>∃(z:Str) (n:Int),x=.str z∧y=.int n∧-1000≤n∧n≤1000∧z.length≤1000∧Q (.str (Txt.mul z n)) H
theorem mulOk_of {z:Str}{n:Int}(h0 : -1000≤n)(h1:n≤1000)(h2:z.length≤1000):MulOk z n:=by
 refine⟨by simp;omega,fun a b c=>?_,fun a b=>?_⟩
 ·have h3:(z.length:Int)*n≤1000*1000:=Int.mul_le_mul (by omega) h1 (by omega) (by omega)
  have h4:(z.length:Int)≤(2^63-1)/n:=(Int.le_ediv_iff_mul_le (by omega)).mpr (by omega)
  omega
 ·have:z.length*n.toNat≤1000*1000:=Nat.mul_le_mul h2 (by omega)
  show decide (_>sizeLine)=false
  rw[sizeLine_eq]
  exact decide_eq_false (by omega)
theorem dv:OpR X (binaryOp .Mult) zhe:=by
 intro pins s σ H x y v u Q I rx ry h
 obtain⟨z,n,rfl,rfl,h0,h1,h2,q⟩:=h
 obtain⟨t,rfl⟩:=rx
 obtain⟨t',rfl⟩:=ry
 exact SB.mul (mulOk_of h0 h1 h2) fun t' k=>⟨.str (Txt.mul z n),H,I.tok _,⟨_,rfl⟩,q⟩
def zhD (K:PySem.W.Frag)(n:Nat)(t:TGs):TG:=fun v σ H Q=>∃a xs,v=.ref a∧SqL K H a xs∧n≤xs.length∧∀l,H l=none→t (xs.take n++[.ref l]) σ (upd H l (.lst (xs.drop n))) Q
theorem zdL {e:Expr}{p:Pos}{es:List Expr}{t:TG}{u:TGs}(h1:PG X e t)(h2:PGs X es u):PGs X (.Starred e p::es) (zf0 t u):=by
 intro pins s σ H vs us Q I r h
 obtain⟨v,vr,e1,h⟩:=h
 subst e1
 cases r with
 |cons r1 r2=>
  show wpAny _ _ (assignInOrder (assign e X.env::(assignEach es X.env).map (·.2)) _) _ _ s
  rename_i u0 ur
  show wpAny _ _ (do holding ur (assign e X.env u0);assignInOrder ((assignEach es X.env).map (·.2)) ur) _ _ s
  exact wpAny_bind (wpAny_holding (thn (h1 pins s σ H v _ _ I r1 h) fun _ s1 ⟨σ1,H1,I1,q1⟩=>h2 pins s1 σ1 H1 vr _ Q I1 r2 q1))
theorem zdh {prog:Program}{w:World}{A:Around}{I:Addr}{fp wr:List Addr}{n k:Nat}{P:Nat→Value→Prop}{St:Nat→Heap→Prop}(W:Walks prog w A I fp wr (k+n) P St) :
 Walks prog w A I fp wr n (fun i v=>P (k+i) v) (fun i h=>St (k+i) h) where
 sub:=W.sub
 frame:=fun i h h' st hk=>W.frame (k+i) h h' st hk
 item:=fun i s Q E hi st hQ=>W.item (k+i) s Q E (by omega) st hQ
 done:=fun s Q E st hQ=>W.done s Q E st hQ
 self:=fun i s Q E st hQ=>W.self (k+i) s Q E st hQ
theorem zaF {prog:Program}{w:World}{A:Around}{E:Value→Shared→Prop}{s:Shared}{t:Addr}{items:Array Value}{n:Nat}{Q:List Value→Shared→Prop}(hh:A.handled=none)(ht:s.heap.IsList t items)(hn:n≤items.size)(hz:items.size≤sizeLine)
 (hQ:∀(h':Heap) (tk:Nat),(∀b o,s.heap.get? b=some o→h'.get? b=some o)→Q (items.toList.take n++[.ref h'.objs.size]) { s with heap:=h'.push { cls:=.type "list",data:=.seq (items.toList.drop n).toArray },toks:=tk }) :
 wpAny (model prog w) A (unpackItems (.ref t) (n+1) (some n)) Q E s:=by
 have hlt:t≠s.heap.objs.size:=by obtain⟨o,ho,_⟩:=ht;exact Nat.ne_of_lt (Heap.lt_size ho)
 unfold unpackItems
 refine wpAny_bind ?_
 unfold notIterableAtAll
 refine wpAny_bind (wpAny_specialOf ht.typeIs slot_list_iter.lookup ?_)
 refine wpAny_pure ?_
 simp only[Bool.false_eq_true,if_false]
 refine wpAny_bind (wpAny_holding (wpAny_pyIter_list ht ?_))
 refine wpAny_bind (wpAny_holding (zf2 hlt n 0 _ _ ⟨_,Heap.get?_push_size _ rfl,rfl,rfl⟩ (ht.push _) (by omega) fun h₁ hit₁ hs₁=>?_))
 rw[List.drop_zero]
 have hlen:(items.toList.take n).length=n:=by rw[List.length_take];simp;omega
 rw[if_neg (by rw[hlen];omega)]
 have ht₁:h₁.IsList t items:=(ht.push _).at fun o e=>hs₁.extBut t o hlt e
 have hit₁:h₁.IsListIter s.heap.objs.size t n:=by simpa using hit₁
 obtain⟨k,hk⟩:∃k,items.size=n+k:=⟨items.size-n,by omega⟩
 have W:=Walks.list (prog:=prog) (w:=w) (A:=A.in1) hh s.heap.objs.size t hlt items
 rw[hk] at W
 have lt1:s.heap.objs.size<h₁.objs.size:=by obtain⟨o,e,_⟩:=hit₁;exact Heap.lt_size e
 have lt2:t<h₁.objs.size:=by obtain⟨o,e,_⟩:=ht₁;exact Heap.lt_size e
 refine wpAny_bind (wpAny_holding (wpAny_collect_iter (s:={ s with heap:=h₁ }) (.inr (.inr (.inl rfl))) (zdh W).toS (fun i s' st=>?_) ⟨hit₁,ht₁⟩ (fun b hb=>?_) (by simp) (fun s' acc hm hacc=>?_) (by omega)))
 ·obtain⟨⟨o,e,c,_⟩,_⟩:=st
  exact⟨o,e,c⟩
 ·have hb:b=s.heap.objs.size∨b=t:=by simpa using hb
  rcases hb with rfl|rfl
  ·exact lt1
  ·exact lt2
 ·have ea:acc.toList=items.toList.drop n:=by
   apply List.ext_getElem?
   intro j
   rw[List.getElem?_drop,Array.getElem?_toList,Array.getElem?_toList]
   by_cases hj:j<acc.size
   ·have:=hacc.2 j acc[j] (Array.getElem?_eq_getElem hj)
    rw[Array.getElem?_eq_getElem hj,this]
   ·have hs:=hacc.1
    rw[Array.getElem?_eq_none (by omega),Array.getElem?_eq_none (by omega)]
  rw[if_neg (by simp)]
  refine wpAny_bind ?_
  have e0:acc.toList.length-(n+1-1-n)=acc.toList.length:=by omega
  rw[e0,List.take_length,List.drop_length,ea]
  obtain⟨h',g',d',tk,os'⟩:=s'
  have hg:g'=s.gens:=hm.gens
  have hd:d'=s.drawn:=hm.drawn
  have ho:os'=s.os:=hm.os
  subst hg hd ho
  refine wpAny_newList ?_ (by simp;omega)
  refine wpAny_pure ?_
  rw[List.append_nil]
  refine hQ h' tk fun b o e=>hm.heap b o (fun z=>?_) (hs₁.extBut b o (Nat.ne_of_lt (Heap.lt_size e)) (Heap.get?_push_of_some _ e))
  have z:b=s.heap.objs.size:=by simpa using z
  exact Nat.lt_irrefl _ (z▸Heap.lt_size e)
theorem ze2 {K:PySem.W.Frag}{pos:Pos}{es:List Expr}{k:Nat}{t:TGs}{n:Nat}(hK:X.K=K)(hc:X.calm=true)(h:PGs X es t)
 (hn:(assignEach es X.env).length=n+1:=by rfl) (hst:(assignEach es X.env).findIdx? (·.1)=some n:=by rfl):PG X (.Tuple es k pos) (zhD K n t):=by
 subst hK
 intro pins s σ H v u Q I r hw
 obtain⟨a,xs,e1,hq,hl,hw⟩:=hw
 subst e1
 cases r
 obtain⟨its,rv,ht,hz⟩:=I.list hq
 have hlen:=rv.length
 rw[assign_Tuple]
 refine wpAny_bind (wpAny_standAt ?_)
 unfold unpack
 rw[hn,hst]
 refine wpAny_bind (wpAny_holding (zaF (I.ok.hd hc) ht.isList (by simp;omega) (by simp;omega) fun h' tk hk=>?_))
 have hr2:Vals (xs.drop n) (its.drop n):=rv.drop n
 have I0:Inv X pins σ H { s with heap:=h',toks:=tk }:=I.kept (t':=tk) hk
 have I1:=I0.lnew (its:=its.drop n) (ys:=xs.drop n) (t':=tk) hr2 (by rw[List.length_drop];omega)
 exact h pins _ σ _ (xs.take n++[.ref h'.objs.size]) _ Q I1 ((rv.take n).append (ys:=[.ref h'.objs.size]) (.cons rfl .nil)) (hw _ (I0.hok.fresh (Nat.le_refl _)))
end
end
section
structure KD (P:Program)(w:World)(K:PySem.W.Frag)(d:Addr)(kvs:List (Key×V)):Prop where
 sm:(d==sysModules)=false
 ob:∃vs,KV kvs vs∧∀h:Heap,(∀o,K.lookup d=some o→h.get? d=some o)→h.DictOf (zY P w) d vs
def zgI (P:Params)(x:Str)(t:Tok)(v:Value):DictEntry:={ hash:=PyData.keyHash P x,key:=.str x t,val:=v }
theorem bj {P:Program}{w:World}:∀{l:List (Str×Tok×Value)},Pairs (zY P w) (l.map fun p=>zgI w.params p.1 p.2.1 p.2.2) (l.map fun p=>((Sum.inr p.1:Key),p.2.2))
 |[]=>.nil
 |(x,t,v)::l=>.cons (yv x t) rfl bj
theorem zfY {P:Program}{w:World}{K:PySem.W.Frag}{d:Addr}{l:List (Str×Tok×Value)}{xs:List V}{n:Nat}(hd:(d==sysModules)=false)
 (e:K.lookup d=some { cls:=.type "dict",data:=.dict (l.map fun p=>zgI w.params p.1 p.2.1 p.2.2).toArray n }) (hn:(l.map (·.1)).Nodup) (r:Vals xs (l.map (·.2.2))):KD P w K d ((l.map fun p=>(Sum.inr p.1:Key)).zip xs):=by
 refine⟨hd,l.map fun p=>((Sum.inr p.1:Key),p.2.2),?_,fun h k=>⟨_,_,n,k _ e,⟨rfl,rfl,rfl⟩,rfl,fun x hx=>?_,by simpa using bj (l:=l),?_⟩⟩
 ·have go:∀(l:List (Str×Tok×Value)) (xs:List V),Vals xs (l.map (·.2.2))→KV ((l.map fun p=>(Sum.inr p.1:Key)).zip xs) (l.map fun p=>((Sum.inr p.1:Key),p.2.2)):=by
   intro l
   induction l with
   |nil=>intro xs r;cases r;exact .nil
   |cons p l ih=>
    intro xs r
    cases r with
    |cons r1 r2=>exact .cons ⟨rfl,r1⟩ (ih _ r2)
  exact go l xs r
 ·have hx:x∈l.map fun p=>zgI w.params p.1 p.2.1 p.2.2:=by simpa using hx
  obtain⟨p,_,rfl⟩:=List.mem_map.mp hx
  exact⟨Sum.inr p.1,yv p.1 p.2.1,rfl⟩
 ·rw[List.map_map]
  have:((fun kv:Key×Value=>kv.1)∘fun p:Str×Tok×Value=>((Sum.inr p.1:Key),p.2.2))=Sum.inr∘(·.1):=rfl
  rw[this,←List.map_map]
  exact List.Pairwise.map _ (fun a b h z=>h (by injection z)) hn
section
variable {X:Cx}{o i:Expr}{td ty:TE}{pos:Pos}{P:Program}{w:World}{K:PySem.W.Frag}
def zgX (P:Program)(w:World)(K:PySem.W.Frag)(td ty:TE):TE:=fun σ H Q=>td σ H fun x H1=>ty σ H1 fun y H2=>∃d kvs k v,x=.ref d∧KD P w K d kvs∧y=kV k∧qQ kvs k=some v∧Q v H2
theorem zbS (hP:X.prog=P)(hw:X.w=w)(hK:X.K=K)(ho:PE X o td)(hi:PE X i ty)(hs:zgM i):PE X (.Subscript o i pos) (zgX P w K td ty):=by
 subst hP hw hK
 intro pins s σ H Q I h
 refine zbu PySem.F.slot_dict_getitem.lookup hs (thn (ho pins s σ H _ I h) fun u s1 ⟨x,H1,I1,rx,q1⟩=>thn (hi pins s1 σ H1 _ I1 q1) fun iv s2 ⟨y,H2,I2,ry,d,kvs,k,v,ex,kd,ey,l,q2⟩=>?_)
 subst ex ey
 obtain rfl:u=Value.ref d:=rx
 obtain⟨vs,rel,dd⟩:=kd.ob
 have dd:=dd s2.heap fun o e=>I2.kIn d o e
 obtain⟨w',hw,rw'⟩:=RelO.some_of (v:=v) (o:=valueAt vs k) (by rw[←l];exact rel.val k)
 exact⟨dd.typeIs,wpAny_getItem_of (bz ry) dd.mapOf hw ⟨v,H2,I2.tok _,rw',q2⟩⟩
def zgW (P:Program)(w:World)(K:PySem.W.Frag)(ty td:TE):TE:=fun σ H Q=>ty σ H fun y H1=>td σ H1 fun x H2=>∃d kvs k,x=.ref d∧KD P w K d kvs∧y=kV k∧Q (.bl (!(qQ kvs k).isSome)) H2
theorem ze7 (hP:X.prog=P)(hw:X.w=w)(hK:X.K=K)(hi:PE X i ty)(ho:PE X o td):PC X .NotIn i o (zgW P w K ty td):=by
 subst hP hw hK
 intro pins s σ H Q I h
 refine thn (hi pins s σ H _ I h) fun iv s1 ⟨y,H1,I1,ry,q1⟩=>thn (ho pins s1 σ H1 _ I1 q1) fun u s2 ⟨x,H2,I2,rx,d,kvs,k,ex,kd,ey,q2⟩=>?_
 subst ex ey
 obtain rfl:u=Value.ref d:=rx
 obtain⟨vs,rel,dd⟩:=kd.ob
 have dd:=dd s2.heap fun o e=>I2.kIn d o e
 refine wpAny_notIn_of (bz ry) kd.sm dd.mapOf ?_
 rw[←(rel.val k).isSome_eq]
 exact⟨.bl (!(qQ kvs k).isSome),H2,I2.tok _,rfl,q2⟩
def zg1 (X:Cx)(k i:Nat)(t:TA):TE:=fun σ H Q=>∃(f:Addr) (fd:FuncData) (ps:List Str) (sp:Sp) (CX:CXT) (E:XK),σ[i]?=some (some (.ref f))∧FnOk X.prog X.w X.K X.mg X.base CX k f fd ps sp∧PySem.W.keepIn X.K (.ref f)=true∧Binds X.K fd ps []∧je CX X E∧t σ H fun vs H1=>sp vs H1 Q E
theorem ze5 {k:Nat}(hr:Room k X.A)(i:Nat){x:Str}{p:Pos}{e:Expr}{es:List Expr}{t:TA}(ha:PA X (e::es) t)(hN:X.N[i]?=some x:=by rfl)(hv:Vis X.env.scope x:=by first|exact Or.inl rfl|exact Or.inr (Or.inl rfl)|exact Or.inr (Or.inr rfl))(hd:(x==("__debug__":Str))=false:=by decide)
 (hcd:(x==("__classdict__":Str))=false:=by decide) (hs:starEach (e::es) X.env=(false,eval e X.env)::starEach es X.env:=by rfl) (hpl:(backTo pos (starEach es X.env)).any (·.1)=false:=by rfl):PE X (.Call (.Name x p) (e::es) [] pos) (zg1 X k i t):=by
 intro pins s σ H Q I h
 obtain⟨f,fd,ps,sp,CX,E,hi,F,hk,hb,hx,h⟩:=h
 refine wpAny_Call_Name_kw (thn (zdM hN hv hd hcd pins s σ H (fun v H'=>v=.ref f∧H'=H) I ⟨_,hi,rfl,rfl⟩) fun u s0 ⟨v,H',I0,r0,e1,e2⟩=>?_)
 subst e1 e2
 obtain rfl:u=Value.ref f:=r0
 refine PySem.W.callWith_K (h₀:=X.base) I0.ok.mod.kin hk (thn (ha pos pins s0 σ H' _ I0 h) fun us s1 ⟨vs,H1,I1,r,q⟩=>⟨I1.kIn,?_⟩) hs hpl
 exact gc F hr hb .nil hx I1 r (by rw[List.append_nil];exact q)
end
end
section
abbrev VKb:=Nat→V→Hp→Prop
abbrev TEb:=Nat→St→Hp→VKb→Prop
abbrev TTb:=Nat→St→Hp→(Nat→Bool→Hp→Prop)→Prop
abbrev TAb:=Nat→St→Hp→(Nat→List V→Hp→Prop)→Prop
structure zbp where
 nx:Nat→St→Hp→Prop
 rt:VKb
 bk:Nat→St→Hp→Prop:=fun _ _ _=>False
 ct:Nat→St→Hp→Prop:=fun _ _ _=>False
abbrev TSb:=zbp→Nat→St→Hp→Prop
def EPb (X:Cx)(pins:List (Addr×Obj))(σ:St)(Q:VKb)(u:Value)(s':Shared):Prop:=∃v H' n,n≤s'.toks∧Inv X pins σ H' s'∧RelV v u∧Q n v H'
def TPb (X:Cx)(pins:List (Addr×Obj))(σ:St)(Q:Nat→Bool→Hp→Prop)(b:Bool)(s':Shared):Prop:=∃H' n,n≤s'.toks∧Inv X pins σ H' s'∧Q n b H'
def APb (X:Cx)(pins:List (Addr×Obj))(σ:St)(Q:Nat→List V→Hp→Prop)(us:List Value)(s':Shared):Prop:=∃vs H' n,n≤s'.toks∧Inv X pins σ H' s'∧Vals vs us∧Q n vs H'
def SPb (X:Cx)(pins:List (Addr×Obj))(D:zbp)(f:Flow)(s':Shared):Prop:=
 match f with
 | .next=>∃σ' H' n,n≤s'.toks∧Inv X pins σ' H' s'∧D.nx n σ' H'
 | .brk=>∃σ' H' n,n≤s'.toks∧Inv X pins σ' H' s'∧D.bk n σ' H'
 | .cont=>∃σ' H' n,n≤s'.toks∧Inv X pins σ' H' s'∧D.ct n σ' H'
 | .ret u=>∃v σ' H' n,n≤s'.toks∧Inv X pins σ' H' s'∧RelV v u∧D.rt n v H'
def PEb (X:Cx)(e:Expr)(t:TEb):Prop:=
 ∀(pins:List (Addr×Obj)) (s:Shared) (σ:St) (H:Hp) (n:Nat) (Q:VKb),Inv X pins σ H s→n≤s.toks→t n σ H Q→wpAny (model X.prog X.w) X.A (eval e X.env) (EPb X pins σ Q) X.xe s
def PTb (X:Cx)(e:Expr)(t:TTb):Prop:=
 ∀(pins:List (Addr×Obj)) (s:Shared) (σ:St) (H:Hp) (n:Nat) (Q:Nat→Bool→Hp→Prop),Inv X pins σ H s→n≤s.toks→t n σ H Q→wpAny (model X.prog X.w) X.A (isTrue e X.env (eval e X.env)) (TPb X pins σ Q) X.xe s
def PAb (X:Cx)(es:List Expr)(t:TAb):Prop:=
 ∀(pos:Pos) (pins:List (Addr×Obj)) (s:Shared) (σ:St) (H:Hp) (n:Nat) (Q:Nat→List V→Hp→Prop),Inv X pins σ H s→n≤s.toks→t n σ H Q→wpAny (model X.prog X.w) X.A (spliced (backTo pos (starEach es X.env))) (APb X pins σ Q) X.xe s
def PSb (X:Cx)(st:Stmt)(t:TSb):Prop:=
 ∀(pins:List (Addr×Obj)) (s:Shared) (σ:St) (H:Hp) (n:Nat) (D:zbp),Inv X pins σ H s→n≤s.toks→t D n σ H→wpAny (model X.prog X.w) X.A (exec st X.env) (SPb X pins D) X.xe s
def pj (X:Cx)(st:List Stmt)(t:TSb):Prop:=
 ∀(pins:List (Addr×Obj)) (s:Shared) (σ:St) (H:Hp) (n:Nat) (D:zbp),Inv X pins σ H s→n≤s.toks→t D n σ H→wpAny (model X.prog X.w) X.A (execs st X.env) (SPb X pins D) X.xe s
def lE (te:TE):TEb:=fun n σ H Q=>te σ H (Q n)
def lT (t:TT):TTb:=fun n σ H Q=>t σ H (Q n)
def lA (t:TA):TAb:=fun n σ H Q=>t σ H (Q n)
def lS (t:TS):TSb:=fun D n σ H=>t { nx:=D.nx n,rt:=D.rt n,bk:=D.bk n,ct:=D.ct n } σ H
section
variable {X:Cx}{pos:Pos}
theorem qu {α:Type}{t:Sem α}{Q Q':α→Shared→Prop}{s:Shared}{n:Nat}(hn:n≤s.toks)(h:wpAny (model X.prog X.w) X.A t Q X.xe s)(k:∀a s',n≤s'.toks→Q a s'→Q' a s'):wpAny (model X.prog X.w) X.A t Q' X.xe s:=
 wpAny_mono (wpAny_toks_of hn h) (fun a s' z=>k a s' z.1 z.2) fun _ _ z=>z.2
theorem PE.b {e:Expr}{te:TE}(h:PE X e te):PEb X e (lE te):=fun pins s σ H n Q I hn q=>qu hn (h pins s σ H _ I q) fun u s' hn' ⟨v,H',I',r,q'⟩=>⟨v,H',n,hn',I',r,q'⟩
theorem PT.b {e:Expr}{t:TT}(h:PT X e t):PTb X e (lT t):=fun pins s σ H n Q I hn q=>qu hn (h pins s σ H _ I q) fun u s' hn' ⟨H',I',q'⟩=>⟨H',n,hn',I',q'⟩
theorem PA.b {es:List Expr}{t:TA}(h:PA X es t):PAb X es (lA t):=fun pos pins s σ H n Q I hn q=>qu hn (h pos pins s σ H _ I q) fun u s' hn' ⟨vs,H',I',r,q'⟩=>⟨vs,H',n,hn',I',r,q'⟩
theorem zg6 {pins:List (Addr×Obj)}{D:zbp}{n:Nat}{f:Flow}{s':Shared}(hn:n≤s'.toks)(h:SP X pins { nx:=D.nx n,rt:=D.rt n,bk:=D.bk n,ct:=D.ct n } f s'):SPb X pins D f s':=by
 cases f with
 |next=>obtain⟨σ',H',I',q⟩:=h;exact⟨σ',H',n,hn,I',q⟩
 |brk=>obtain⟨σ',H',I',q⟩:=h;exact⟨σ',H',n,hn,I',q⟩
 |cont=>obtain⟨σ',H',I',q⟩:=h;exact⟨σ',H',n,hn,I',q⟩
 |ret u=>obtain⟨v,σ',H',I',r,q⟩:=h;exact⟨v,σ',H',n,hn,I',r,q⟩
theorem PS.b {st:Stmt}{t:TS}(h:PS X st t):PSb X st (lS t):=fun pins s σ H n D I hn q=>qu hn (h pins s σ H _ I q) fun f s' hn' z=>zg6 hn' z
theorem PSs.b {st:List Stmt}{t:TS}(h:PSs X st t):pj X st (lS t):=fun pins s σ H n D I hn q=>qu hn (h pins s σ H _ I q) fun f s' hn' z=>zg6 hn' z
theorem kI {x:Str}{j:Nat}:PEb X (.Constant (.str x) j pos) (fun n _ H Q=>∀t,n≤t→Q (t+1) (.tst x t) H):=fun pins s σ H n Q I hn q=>
 Calls.Constant_str ⟨.tst x s.toks,H,s.toks+1,Nat.le_refl _,I.tok _,rfl,q _ hn⟩
def zdm (r:Nat→V→V→Hp→VKb→Prop)(ta tb:TEb):TEb:=fun n σ H Q=>ta n σ H fun n1 x H1=>tb n1 σ H1 fun n2 y H2=>r n2 x y H2 Q
def OpRb (X:Cx)(f:Value→Value→Sem Value)(r:Nat→V→V→Hp→VKb→Prop):Prop:=
 ∀(pins:List (Addr×Obj)) (s:Shared) (σ:St) (H:Hp) (n:Nat) (x y:V) (v u:Value) (Q:VKb),Inv X pins σ H s→n≤s.toks→RelV x v→RelV y u→r n x y H Q→wpAny (model X.prog X.w) X.A (f v u) (EPb X pins σ Q) X.xe s
theorem OpR.b {f:Value→Value→Sem Value}{r:R2}(h:OpR X f r):OpRb X f (fun n x y H Q=>r x y H (Q n)):=fun pins s σ H n x y v u Q I hn rx ry q=>qu hn (h pins s σ H x y v u _ I rx ry q) fun u s' hn' ⟨v,H',I',r,q'⟩=>⟨v,H',n,hn',I',r,q'⟩
theorem zf3 {a b:Expr}{ta tb:TEb}{K:Value→Value→Sem Value}{pins:List (Addr×Obj)}{s:Shared}{σ:St}{H:Hp}{n:Nat}{Q:VKb}{r:Nat→V→V→Hp→VKb→Prop}(ha:PEb X a ta)(hb:PEb X b tb)(I:Inv X pins σ H s)(hn:n≤s.toks)(h:zdm r ta tb n σ H Q)
 (k:∀v u s2 x y H2 n2,n2≤s2.toks→Inv X pins σ H2 s2→RelV x v→RelV y u→r n2 x y H2 Q→wpAny (model X.prog X.w) X.A (K v u) (EPb X pins σ Q) X.xe s2) :
 wpAny (model X.prog X.w) X.A (eval a X.env) (fun v s1=>wpAny (model X.prog X.w) X.A (eval b X.env) (fun u s2=>wpAny (model X.prog X.w) X.A (K v u) (EPb X pins σ Q) X.xe s2) X.xe s1) X.xe s:=
 thn (ha pins s σ H n _ I hn h) fun v s1 ⟨x,H1,n1,hn1,I1,r1,q1⟩=>thn (hb pins s1 σ H1 n1 _ I1 hn1 q1) fun u s2 ⟨y,H2,n2,hn2,I2,r2,q2⟩=>k v u s2 x y H2 n2 hn2 I2 r1 r2 q2
theorem dm {a b:Expr}{ta tb:TEb}{op:Operator}{r:Nat→V→V→Hp→VKb→Prop}(ho:OpRb X (binaryOp op) r)(ha:PEb X a ta)(hb:PEb X b tb):PEb X (.BinOp a op b pos) (zdm r ta tb):=by
 intro pins s σ H n Q I hn h
 exact wpAny_BinOp (zf3 ha hb I hn h fun v u s2 x y H2 n2 hn2 I2 rx ry q=>ho pins s2 σ H2 n2 x y v u Q I2 hn2 rx ry q)
def zgO (X:Cx)(r:Nat→V→V→Hp→VKb→Prop):Prop:=
 ∀(value slice:Expr) (pins:List (Addr×Obj)) (s:Shared) (σ:St) (H:Hp) (n:Nat) (x y:V) (v u:Value) (Q:VKb),Inv X pins σ H s→n≤s.toks→RelV x v→RelV y u→r n x y H Q→
  subscripted slice false v u=operate [v,u] (getItem v u)→wpAny (model X.prog X.w) X.A (subscriptTail value slice v u) (EPb X pins σ Q) X.xe s
theorem IxR.b {r:R2}(h:IxR X r):zgO X (fun n x y H Q=>r x y H (Q n)):=fun a b pins s σ H n x y v u Q I hn rx ry q hs=>qu hn (h a b pins s σ H x y v u _ I rx ry q hs) fun u s' hn' ⟨v,H',I',r,q'⟩=>⟨v,H',n,hn',I',r,q'⟩
theorem dq {a b:Expr}{ta tb:TEb}{r:Nat→V→V→Hp→VKb→Prop}(hr:zgO X r)(ha:PEb X a ta)(hb:PEb X b tb)(hs:zci b):PEb X (.Subscript a b pos) (zdm r ta tb):=by
 intro pins s σ H n Q I hn h
 exact Subscript_ (zf3 ha hb I hn h fun v u s2 x y H2 n2 hn2 I2 rx ry q=>hr a b pins s2 σ H2 n2 x y v u Q I2 hn2 rx ry q (hs _ _))
def zga (te:TEb)(t:TAb):TAb:=fun n σ H Q=>te n σ H fun n1 x H1=>t n1 σ H1 fun n2 xs H2=>Q n2 (x::xs) H2
theorem z7 {e:Expr}{es:List Expr}{te:TEb}{t:TAb}(ha:PEb X e te)(hr:PAb X es t)(hs:starEach (e::es) X.env=(false,eval e X.env)::starEach es X.env:=by rfl):PAb X (e::es) (zga te t):=by
 intro pos pins s σ H n Q I hn h
 rw[hs]
 show wpAny _ _ (spliced ((false,eval e X.env)::backTo pos (starEach es X.env))) _ _ s
 refine Calls.spliced_cons (thn (ha pins s σ H n _ I hn h) fun u s1 ⟨x,H1,n1,hn1,I1,r1,q1⟩=>?_)
 exact thn (hr pos pins s1 σ H1 n1 _ I1 hn1 q1) fun us s2 ⟨xs,H2,n2,hn2,I2,r2,q2⟩=>⟨x::xs,H2,n2,hn2,I2,.cons r1 r2,q2⟩
def zfH (t:TAb):TEb:=fun n σ H Q=>t n σ H fun n1 xs H1=>xs.length≤sizeLine∧∀p,H1 p=none→Q n1 (.ref p) (upd H1 p (.tup xs))
def zfJ (t u:TSb):TSb:=fun D n σ H=>t { D with nx:=u D } n σ H
theorem wK:pj X [] (fun D n σ H=>D.nx n σ H):=fun _ _ σ H n _ I hn h=>wpAny_execs_nil ⟨σ,H,n,hn,I,h⟩
theorem zu {st:Stmt}{rest:List Stmt}{t u:TSb}(h1:PSb X st t)(h2:pj X rest u):pj X (st::rest) (zfJ t u):=by
 intro pins s σ H n D I hn h
 refine wpAny_execs_cons (thn (h1 pins s σ H n { D with nx:=u D } I hn h) fun f s1 q=>?_)
 cases f with
 |next=>
  obtain⟨σ',H',n',hn',I',q⟩:=q
  exact h2 pins s1 σ' H' n' D I' hn' q
 |ret v=>exact q
 |brk=>exact q
 |cont=>exact q
theorem jw {st:Stmt}{t:TSb}(h1:PSb X st t):pj X [st] t:=by
 intro pins s σ H n D I hn h
 refine wpAny_execs_cons (thn (h1 pins s σ H n D I hn h) fun f s1 q=>?_)
 cases f with
 |next=>exact wpAny_execs_nil q
 |ret v=>exact q
 |brk=>exact q
 |cont=>exact q
def zfK (te:TEb):TSb:=fun D n σ H=>te n σ H D.rt
theorem xu {e:Expr}{te:TEb}(he:PEb X e te):PSb X (.Return (some e) pos) (zfK te):=by
 intro pins s σ H n D I hn h
 exact wpAny_Return_some (thn (he pins s σ H n _ I hn h) fun v s1 ⟨x,H1,n1,hn1,I1,r1,q1⟩=>⟨x,σ,H1,n1,hn1,I1,r1,q1⟩)
def zh1 (c:TTb)(t u:TSb):TSb:=fun D n σ H=>c n σ H fun n1 b H1=>if b=true then t D n1 σ H1 else u D n1 σ H1
theorem df {c:Expr}{a b:List Stmt}{tc:TTb}{t u:TSb}(hc:PTb X c tc)(ha:pj X a t)(hb:pj X b u):PSb X (.If c a b pos) (zh1 tc t u):=by
 intro pins s σ H n D I hn h
 refine wpAny_If (thn (hc pins s σ H n _ I hn h) fun d s1 ⟨H1,n1,hn1,I1,q1⟩=>?_)
 cases d with
 |true=>exact ha pins s1 σ H1 n1 D I1 hn1 q1
 |false=>exact hb pins s1 σ H1 n1 D I1 hn1 q1
def zgQ (i:Nat)(te:TEb):TSb:=fun D n σ H=>te n σ H fun n1 x H1=>D.nx n1 (σ.set i (some x)) H1
theorem de {i:Nat}{x:Str}{e:Expr}{te:TEb}{pos':Pos}(hN:X.N.Nodup)(hi:X.N[i]?=some x)(hx:Loc X.env.scope x)(he:PEb X e te)(hs:swapsWith e (some (.Name x pos')) pos.line X.env=pure false:=by rfl)(hf:X.fn x=true∨X.env.scope.names.lookup x=some .local:=by first|exact .inl rfl|exact .inr rfl|assumption) :
 PSb X (.Assign [.Name x pos'] e pos) (zgQ i te):=by
 intro pins s σ H n D I hn h
 refine wpAny_Assign_Name (thn (he pins s σ H n _ I hn h) fun v s1 ⟨y,H1,n1,hn1,I1,r1,q1⟩=>?_) hs
 exact qu (Q:=fun _ s2=>Inv X pins (σ.set i (some y)) H1 s2) hn1 (wG I1 hN hi hx r1 (fun s2 I2=>I2) hf) fun _ s2 hn2 I2=>⟨_,H1,n1,hn2,I2,q1⟩
theorem zeZ {a b:Expr}{ta tb:TEb}{op:CmpOp}{r:R2}(ho:OpR X (compareOp op) r)(ha:PEb X a ta)(hb:PEb X b tb)(hm:behindInMarks op b=false) :
 PTb X (.Compare a [op] [b] pos) (fun n σ H Q=>zdm (fun n2 x y H2 Q2=>r x y H2 (Q2 n2)) ta tb n σ H fun n3 z H3=>∃k,z=.bl k∧Q n3 k H3):=by
 intro pins s σ H n Q I hn h
 refine wpAny_isTrue_Compare1 (thn (ha pins s σ H n _ I hn h) fun v s1 ⟨x,H1,n1,hn1,I1,r1,q1⟩=>thn (hb pins s1 σ H1 n1 _ I1 hn1 q1) fun u s2 ⟨y,H2,n2,hn2,I2,r2,q2⟩=>
  qu hn2 (ho pins s2 σ H2 x y v u _ I2 r1 r2 q2) fun c s3 hn3 ⟨z,H3,I3,r3,k,e,q3⟩=>?_) hm
 subst e
 cases r3
 exact wpAny_truthy_bool ⟨H3,n2,hn3,I3,q3⟩
end
end
section
abbrev Spb:=Nat→List V→Hp→VKb→Prop
structure FnOkB (P:Program)(w:World)(K:PySem.W.Frag)(mg:Str→Option Value)(base:Heap)(k:Nat)(f:Addr)(fd:FuncData)(ps:List Str)(sp:Spb):Prop where
 len:∀n vs H Q,sp n vs H Q→vs.length=ps.length
 run:∀(A:Around) (outer:List Env) (s:Shared) (H:Hp) (args:Args) (us:List Value) (vs:List V) (n:Nat) (Q:VKb),Room k A→Env0 P w K mg base A outer s H→BindsTo s fd args (ps.zip us)→Vals vs us→n≤s.toks→sp n vs H Q→
  codeAny (model P w) A (.call (.ref f) args) (fun r s'=>match r with | .ok (.ret u)=>∃n',n'≤s'.toks∧CE outer P w H s (Q n') u s'|_=>False) s
section
variable {P:Program}{w:World}{K:PySem.W.Frag}{mg:Str→Option Value}{base:Heap}
theorem Fun.okB {x qual:Str}{st:Stmt}{f:Addr}{fd:FuncData}{N ps:List Str}{k:Nat}{sp:Spb}(F:Fun K x qual st f fd)(S:zl N ps (zd st))(len:∀n vs H Q,sp n vs H Q→vs.length=ps.length)
 (hbody:∀(cdv:Value) (A:Around) (outer:List Env) (s:Shared) (H:Hp) (vs:List V) (n:Nat) (Q:VKb),Room k (A.deeper (envOfC qual (zd st) s.heap.objs.size f cdv))→sp n vs H Q→
   ∃t,pj (v9 CX0 P w K mg base N qual (zd st) f cdv A outer s H E0).nox (qE st) t∧t { nx:=fun n' _ H'=>Q n' .non H',rt:=Q } n (start N vs) H):FnOkB P w K mg base (k+1) f fd ps sp:=by
 obtain⟨oc,od,kV,doc,pm,an,cdv,ct,osl,rfl,lk,hcd⟩:=F.ex
 refine⟨len,fun A outer s H args us vs n Q hr e0 hb r hn hsp=>?_⟩
 have hl:=len _ _ _ _ hsp
 have KX:K.In s.heap:=e0.mod.kin.keeps fun b o e=>(e0.bs b o e).1
 have lim:s.heap.NoLimit:=e0.mod.nolimit.keeps fun b o e=>(e0.bs b o e).1
 have hkind:∀y∈ps.zip us,(zd st).names.lookup y.1=some .local∨((zd st).names.lookup y.1=some .cell∧((cellsFrom (s.heap.objs.size+1) (zd st).names []).lookup y.1).isSome=true):=fun⟨m,v⟩ hy=>by
  rcases S.par m (List.of_mem_zip hy).1 with q|q
  ·exact .inl q
  ·exact .inr ⟨q,PySem.W.cellsFrom_some _ _ _ (.inl q)⟩
 refine codeAny_call_function hr.depth (KX _ _ lk) rfl S.co S.gen rfl (PySem.W.codeRec_of KX hcd) (hb _ _ _ _ ?_)
 refine wpAny_with_toks hn (wpAny_newFunctionEnv_cells S.kind hkind fun env he s1 x hn1=>?_)
 subst he
 refine⟨lim.keeps x.toInCall.keep,codeAny_func ?_⟩
 obtain⟨t,ht,hq⟩:=hbody cdv A outer s H vs n Q (hr.deeper _) hsp
 have I:Inv (v9 CX0 P w K mg base N qual (zd st) f cdv A outer s H E0) [] (start N vs) H s1:=bD S hr.hd e0 hl r x
 have I':Inv (v9 CX0 P w K mg base N qual (zd st) f cdv A outer s H E0).nox [] (start N vs) H s1:=Inv.withXe (x:=fun _ _=>False) I
 refine wpAny_mono (ht [] s1 (start N vs) H n _ I' hn1 hq) (fun fl s' hs=>?_) fun e s' hs=>hs.elim
 have fin:∀{σ':St}{H':Hp}{v:V}{u:Value}{n':Nat},n'≤s'.toks→Inv (v9 CX0 P w K mg base N qual (zd st) f cdv A outer s H E0).nox [] σ' H' s'→RelV v u→Q n' v H'→∃n',n'≤s'.toks∧CE outer P w H s (Q n') u s':=
  fun {σ' H' v u n'} hn' J rv q=>⟨n',hn',v,H',J.os,J.bare,J.base,J.hok,rv,q⟩
 cases fl with
 |ret u=>
  obtain⟨v,σ',H',n',hn',J,rv,q⟩:=hs
  exact fin hn' J rv q
 |next=>
  obtain⟨σ',H',n',hn',J,q⟩:=hs
  exact fin (v:=V.non) (u:=Value.none) hn' J rfl q
 |brk=>
  obtain⟨_,_,_,_,_,q⟩:=hs
  exact False.elim q
 |cont=>
  obtain⟨_,_,_,_,_,q⟩:=hs
  exact False.elim q
end
section
variable {X:Cx}{pos:Pos}{k:Nat}{f:Addr}{fd:FuncData}{ps:List Str}{x:Str}{p apos:Pos}{e o:Expr}{es:List Expr}
theorem bh {sp:Spb}{t:TAb}(F:FnOkB X.prog X.w X.K X.mg X.base k f fd ps sp)(hr:Room k X.A)(hg:Gl X x)(hm:X.mg x=some (.ref f))(hk:PySem.W.keepIn X.K (.ref f)=true)(hb:Binds X.K fd ps [])
 (ha:PAb X (e::es) t) (hdb:(x==("__debug__":Str))=false:=by decide) (he:starEach (e::es) X.env=(false,eval e X.env)::starEach es X.env:=by rfl) (hpl:(backTo pos (starEach es X.env)).any (·.1)=false:=by rfl) :
 PEb X (.Call (.Name x p) (e::es) [] pos) (fun n σ H Q=>t n σ H fun n1 vs H1=>sp n1 vs H1 Q):=by
 intro pins s σ H n Q I hn h
 refine wpAny_Call_Name_kw (xy I hg hm ?_ hdb)
 refine PySem.W.callWith_K (h₀:=X.base) I.ok.mod.kin hk (thn (ha pos pins s σ H n _ I hn h) fun us s1 ⟨vs,H1,n1,hn1,I1,r,q⟩=>⟨I1.kIn,?_⟩) he hpl
 have hl:us.length=ps.length:=by rw[←r.length];exact F.len _ _ _ _ q
 refine wpAny_call (codeAny_mono (F.run X.A X.stack s1 H1 ⟨us,[]⟩ us vs n1 Q hr I1.env0 (by have:=hb s1 us I1.kIn (by rw[List.append_nil];exact hl);rw[List.append_nil] at this;exact this) r hn1 q) fun r s' hq=>?_)
 cases r with
 |error e=>exact hq.elim
 |ok fl=>
  cases fl with
  |ret u=>
   obtain⟨n',hn',ce⟩:=hq
   obtain⟨v,H',I',rv,q'⟩:=I1.after ce
   exact⟨v,H',n',hn',I',rv,q'⟩
  |next=>exact hq.elim
  |brk=>exact hq.elim
  |cont=>exact hq.elim
theorem zcz {CX:CXT}{sp:Sp}{E:XK}{t:TAb}(F:FnOk X.prog X.w X.K X.mg X.base CX k f fd ps sp)(hr:Room k X.A)(hg:Gl X x)(hm:X.mg x=some (.ref f))(hk:PySem.W.keepIn X.K (.ref f)=true)(hb:Binds X.K fd ps [])(hx:je CX X E)
 (ha:PAb X (e::es) t) (hdb:(x==("__debug__":Str))=false:=by decide) (he:starEach (e::es) X.env=(false,eval e X.env)::starEach es X.env:=by rfl) (hpl:(backTo pos (starEach es X.env)).any (·.1)=false:=by rfl) :
 PEb X (.Call (.Name x p) (e::es) [] pos) (fun n σ H Q=>t n σ H fun n1 vs H1=>sp vs H1 (Q n1) E):=by
 intro pins s σ H n Q I hn h
 refine wpAny_Call_Name_kw (xy I hg hm ?_ hdb)
 refine PySem.W.callWith_K (h₀:=X.base) I.ok.mod.kin hk (thn (ha pos pins s σ H n _ I hn h) fun us s1 ⟨vs,H1,n1,hn1,I1,r,q⟩=>⟨I1.kIn,?_⟩) he hpl
 exact qu hn1 (gc F hr hb .nil hx I1 r (by rw[List.append_nil];exact q)) fun u s' hn' ⟨v,H',I',rv,q'⟩=>⟨v,H',n1,hn',I',rv,q'⟩
theorem zdT {T:String}{name:Str}{id:String}{r:V→List V→Hp→VK→Prop}{to:TEb}{t:TAb}{cpos:Pos}(pa:PlainAttrs T)(slot:Slot T name id)(hty:typeOf (.builtin id)=pure (.type "method_descriptor"))(hm:MtM X id r)(ho:PEb X o to)(ha:PAb X (e::es) t)
 (hbase:attributeBase o name X.env (eval o X.env)=eval o X.env:=by rfl)
 (hfew:((backTo cpos (starEach (e::es) X.env)).all (fun x=>!x.1)&&(backToKw cpos (keywordEach [] X.env)).all (fun x=>x.1.isSome)
   && decide ((e::es).length+([]:List Keyword).length+(if([]:List Keyword).isEmpty then 0 else 1)<30))=true:=by rfl)
 (hline:(apos.endLine==cpos.line)=true:=by rfl) (hs:starEach (e::es) X.env=(false,eval e X.env)::starEach es X.env:=by rfl) (hplain:(backTo cpos (starEach es X.env)).any (·.1)=false:=by rfl) :
 PEb X (.Call (.Attribute o name apos) (e::es) [] cpos) (fun n σ H Q=>to n σ H fun n1 x H1=>tyV X.K T x H1∧t n1 σ H1 fun n2 xs H2=>r x xs H2 (Q n2)):=by
 intro pins s σ H n Q I hn h
 refine wpAny_Call_method_late hbase hfew hline rfl (thn (ho pins s σ H n _ I hn h) fun v s1 ⟨x,H1,n1,hn1,I1,r1,ty,q1⟩=>?_)
 obtain⟨h1,h2⟩:=zdj I1 r1 ty
 refine⟨T,id,pa,slot,hty,h1,h2,?_⟩
 have hA:=ha cpos pins s1 σ H1 n1 _ I1 hn1 q1
 rw[hs] at hA ⊢
 refine Calls.callWith_builtin (by show(false||(backTo cpos (starEach es X.env)).any (·.1))=false;rw[hplain]<;>rfl) (Calls.evalArgs_plain ?_)
 exact thn hA fun us s2 ⟨vs,H2,n2,hn2,I2,r2,q2⟩=>qu hn2 (hm pins s2 σ H2 x vs v us _ I2 r1 r2 q2) fun u s' hn' ⟨v,H',I',rv,q'⟩=>⟨v,H',n2,hn',I',rv,q'⟩
theorem zbR {x1:Nat}{t:TAb}(h:PAb X es t):PEb X (.Tuple es x1 pos) (zfH t):=by
 intro pins s σ H n Q I hn hq
 refine wpAny_Tuple_spliced (thn (h pos pins s σ H n _ I hn hq) fun us s1 ⟨xs,H1,n1,hn1,I1,r,z,q⟩=>⟨by rw[←r.length];exact z,?_⟩)
 have hf:H1 s1.heap.objs.size=none:=I1.hok.fresh (Nat.le_refl _)
 refine⟨.ref s1.heap.objs.size,upd H1 s1.heap.objs.size (.tup xs),n1,hn1,I1.laid (t':=s1.toks) (fun b u e=>Heap.get?_push_of_some _ e) (Nat.le_refl _) ?_,rfl,q _ hf⟩
 exact⟨z,us,r,⟨_,Heap.get?_push_size _ rfl,rfl,_,rfl⟩⟩
theorem zb0:zgO X (fun n x y H Q=>∃z i c,x=.str z∧y=.int i∧z.length≤sizeLine∧atI z.cps.toList i=some c∧∀t,n≤t→Q (t+1) (.tst ⟨#[c]⟩ t) H):=by
 intro value slice pins s σ H n x y v u Q I hn rx ry h hs
 obtain⟨z,i,c,rfl,rfl,hz,he,q⟩:=h
 obtain⟨t,rfl⟩:=rx
 obtain⟨t',rfl⟩:=ry
 obtain⟨j,h1,h2,h3,h4,h5⟩:=kQ he
 have hl:z.cps.toList.length=z.length:=by simp[Str.length]
 rw[hl] at h1 h4 h5
 have hn63:=yt
 exact tail_any (typeIs_str s z t) slot_str_getitem.lookup (getItem_str (c:=c) (by
  have e1:decide (i < -(2^63:Int))=false:=decide_eq_false (by omega)
  have e2:decide (i≥2^63)=false:=decide_eq_false (by omega)
  rw[e1,e2,Bool.or_false]) (by rw[h1];simpa using h2) ⟨.tst ⟨#[c]⟩ s.toks,H,s.toks+1,Nat.le_refl _,I.tok _,rfl,q _ hn⟩) hs
theorem op_addb:OpRb X (binaryOp .Add) (fun n x y H Q=>∃a t b u,x=.tst a t∧y=.tst b u∧a.length+b.length≤sizeLine∧
 (if a.length=0 then Q n (.tst b u) H else if b.length=0 then Q n (.tst a t) H else ∀r,n≤r→Q (r+1) (.tst (a++b) r) H)):=by
 intro pins s σ H n x y v u Q I hn rx ry h
 obtain⟨a,t,b,t',rfl,rfl,hl,q⟩:=h
 cases rx
 cases ry
 refine P.add_str ?_
 by_cases ha:a.length=0
 ·rw[if_pos ha] at q
  rw[if_pos (by simp[ha])]
  exact⟨.tst b t',H,n,hn,I,rfl,q⟩
 ·rw[if_neg ha] at q
  rw[if_neg (by simp[ha])]
  by_cases hb:b.length=0
  ·rw[if_pos hb] at q
   rw[if_pos (by simp[hb])]
   exact⟨.tst a t,H,n,hn,I,rfl,q⟩
  ·rw[if_neg hb] at q
   rw[if_neg (by simp[hb])]
   exact⟨by rw[strLen_append];exact hl,.tst (a++b) s.toks,H,s.toks+1,Nat.le_refl _,I.tok _,rfl,q _ hn⟩
theorem op_mulb:OpRb X (binaryOp .Mult) (fun n x y H Q=>∃a t k,x=.tst a t∧y=.int k∧0≤k∧k≤1000∧a.length≤1000∧
 (if k<1 then ∀r,n≤r→Q (r+1) (.tst Str.empty r) H else if k=1∨a.length=0 then Q n (.tst a t) H else ∀r,n≤r→Q (r+1) (.tst ⟨(List.replicate k.toNat a.cps).foldl (·++·) #[]⟩ r) H)):=by
 intro pins s σ H n x y v u Q I hn rx ry h
 obtain⟨a,t,k,rfl,rfl,h0,h1,h2,q⟩:=h
 cases rx
 obtain⟨t',rfl⟩:=ry
 have mk:=mulOk_of (z:=a) (n:=k) (by omega) h1 h2
 refine P.mul_str mk.1 mk.2.1 mk.2.2 ?_
 by_cases hk:k<1
 ·rw[if_pos hk] at q ⊢
  exact⟨by decide,.tst Str.empty s.toks,H,s.toks+1,Nat.le_refl _,I.tok _,rfl,q _ hn⟩
 ·rw[if_neg hk] at q ⊢
  by_cases hk1:k=1∨a.length=0
  ·rw[if_pos hk1] at q
   rw[if_pos (by simpa using hk1)]
   exact⟨.tst a t,H,n,hn,I,rfl,q⟩
  ·rw[if_neg hk1] at q
   have hk2:¬((k==1||a.length==0)=true):=by simpa using hk1
   rw[if_neg hk2]
   exact⟨fits_reps (mk.2.2 hk (by simpa using hk2)),.tst _ s.toks,H,s.toks+1,Nat.le_refl _,I.tok _,rfl,q _ hn⟩
theorem zbW:MtM X "str.replace" (fun x vs H Q=>∃z a t b u,x=.str z∧vs=[.tst a t,.tst b u]∧t≠0∧u≠0∧t≠u∧(a==b)=false∧z.length≤100000∧b.length≤100∧Q (.str (Txt.replace z a b)) H):=by
 intro pins s σ H x vs v us Q I rx rv h
 obtain⟨z,a,t,b,u,rfl,rfl,ht,hu,htu,hab,hz,hb,q⟩:=h
 obtain⟨tz,rfl⟩:=rx
 obtain⟨v1,v2,rfl,r1,r2⟩:=Vals.two rv
 cases r1
 cases r2
 refine SC.replace ht hu htu hab ?_ fun t' k=>⟨.str _,H,I.tok _,⟨_,rfl⟩,q⟩
 have:(z.length+1)*b.length≤100001*100:=Nat.mul_le_mul (by omega) hb
 omega
end
end
section
section
variable {P:Program}{w:World}{K:PySem.W.Frag}{mg:Str→Option Value}{base:Heap}
theorem FnOkB.ok {k:Nat}{f:Addr}{fd:FuncData}{ps:List Str}{sp:Spb}(F:FnOkB P w K mg base k f fd ps sp):FnOk P w K mg base CX0 k f fd ps (fun vs H Q _=>sp 0 vs H fun _ v H'=>Q v H'):=
 ⟨fun vs H Q E h=>F.len 0 vs H _ h,fun A outer s H args us vs Q E hr e0 hb r h=>codeAny_mono (F.run A outer s H args us vs 0 _ hr e0 hb r (Nat.zero_le _) h) fun r s' hq=>by
  cases r with
  |error e=>exact hq.elim
  |ok fl=>
   cases fl with
   |ret u=>obtain⟨_,_,ce⟩:=hq;exact ce
   |next=>exact hq.elim
   |brk=>exact hq.elim
   |cont=>exact hq.elim⟩
end
section
variable {X:Cx}{tg:Expr}
theorem kR {α:Type}{m:Sem α}{Q Q':α→Shared→Prop}{E':Value→Shared→Prop}{s:Shared}{n:Nat}(hx:X.xe=fun _ _=>False)(hn:n≤s.toks)(h:wpAny (model X.prog X.w) X.A m Q X.xe s)(k:∀a s',n≤s'.toks→Q a s'→Q' a s'):wpAny (model X.prog X.w) X.A m Q' E' s:=by
 rw[hx] at h
 exact wpAny_mono (wpAny_toks_of hn h) (fun a s' z=>k a s' z.1 z.2) fun _ _ z=>False.elim z.2
def zgY (wi:TI)(g:TG)(tb:TSb):TSb:=fun D n σ H=>wi σ H fun J H1=>∃W:Nat→Nat→Nat→St→Hp→Prop,(∃m,W 0 m n σ H1)∧∀i m n σ H,W i m n σ H→
 (J.stop i H∧D.nx n σ H)∨(J.go i H∧∃N:Nat→St→Hp→Prop,(∀n' σ' H',N n' σ' H'→∃m',m'<m∧W (i+1) m' n' σ' H')∧∀x H',J.yld i H x H'→g x σ H' fun σ2 H2=>tb { D with nx:=N,ct:=N,bk:=D.nx } n σ2 H2)
theorem ze0 {iter:Expr}{body:List Stmt}{wi:TI}{g:TG}{tb:TSb}{pos:Pos}(hp:PassesOwn (model X.prog X.w) X.A X.env X.xe)(hc:X.calm=true)(hi:PI X tg iter wi)(hg:PG X tg g)(hb:pj X body tb)
 (hs:∀x,foldedSetIterable iter X.env x=pure x:=by intro _;rfl):PSb X (.For tg iter body [] pos) (zgY wi g tb):=by
 intro pins s σ H n D I hn h
 refine wpAny_For (qu hn (hi pins s σ H _ I h) fun v s1 hn1 h1=>qu hn1 h1 fun itv s2 hn2 h2=>?_) hs
 obtain⟨it,fp,tn,J,H2,e,I2,T,st2,f2,W,⟨m0,w0⟩,turn⟩:=h2
 subst e
 have stat:∀{H':Hp},(∀b∈fp,H' b=none)→∀b∈fp,qa X pins H' b:=fun hn b hb=>⟨hn b hb,(f2 b hb).2⟩
 refine codeAny_forLoop_any (fun m s'=>∃i σ' H' n',n'≤s'.toks∧Inv X pins σ' H' s'∧tn i s'.heap∧(∀b∈fp,H' b=none)∧W i m n' σ' H') ?_ m0 ⟨0,σ,H2,n,hn2,I2,st2,fun b hb=>(f2 b hb).1,w0⟩
 rintro m s3 ⟨i,σ3,H3,n3,hn3,I3,st3,fr3,w3⟩
 rcases turn i m n3 σ3 H3 w3 with⟨stop,qn⟩|⟨go,N,hN,step⟩
 ·refine wpAny_passesOwn hp (qu hn3 (T.done X rfl rfl rfl hc i pins s3 σ3 H3 X.xe I3 (stat fr3) st3 stop) fun r s4 hn4 ⟨hr,I4⟩=>?_)
  subst hr
  exact wpAny_execs_nil ⟨σ3,H3,n3,hn4,I4,qn⟩
 ·refine wpAny_passesOwn hp (qu hn3 (T.item X rfl rfl rfl hc i pins s3 σ3 H3 X.xe I3 (stat fr3) st3 go) fun r s4 hn4 ⟨u,hr,h4⟩=>?_)
  subst hr
  refine wpAny_passesOwn hp (qu hn4 h4 fun _ s5 hn5 ⟨x,H5,I5,r5,y5,st5,fr5⟩=>?_)
  have I5':=I5.pinned (stat fr5) (T.obj _ _ st5)
  refine wpAny_passesOwn hp (qu hn5 (hg _ s5 σ3 H5 x u _ I5' r5 (step x H5 y5)) fun _ s6 hn6 ⟨σ6,H6,I6,q6⟩=>?_)
  refine wpAny_passesOwn hp (thn (hb _ s6 σ6 H6 n3 _ I6 hn6 q6) fun f s7 q7=>?_)
  have again:∀{σ7:St}{H7:Hp}{n7:Nat},n7≤s7.toks→Inv X (pins++wb fp s5.heap) σ7 H7 s7→N n7 σ7 H7→∃m',m'<m∧∃i σ' H' n',n'≤s7.toks∧Inv X pins σ' H' s7∧tn i s7.heap∧(∀b∈fp,H' b=none)∧W i m' n' σ' H':=fun {σ7 H7 n7} hn7 I7 q7=>by
   obtain⟨m',hm,w7⟩:=hN n7 σ7 H7 q7
   refine⟨m',hm,i+1,σ7,H7,n7,hn7,I7.unpinned,T.keep _ _ _ st5 fun b hb o e=>(I7.pin (b,o) (List.mem_append_right _ (List.mem_append_right _ (zR hb e)))).1,fun b hb=>?_,w7⟩
   obtain⟨o,e,d⟩:=T.obj _ _ st5 b hb
   exact(I7.pin (b,o) (List.mem_append_right _ (List.mem_append_right _ (zR hb e)))).2.1
  cases f with
  |next=>obtain⟨σ7,H7,n7,hn7,I7,q7⟩:=q7;exact again hn7 I7 q7
  |cont=>obtain⟨σ7,H7,n7,hn7,I7,q7⟩:=q7;exact again hn7 I7 q7
  |brk=>obtain⟨σ7,H7,n7,hn7,I7,q7⟩:=q7;exact⟨σ7,H7,n7,hn7,I7.unpinned,q7⟩
  |ret v=>obtain⟨x7,σ7,H7,n7,hn7,I7,r7,q7⟩:=q7;exact⟨x7,σ7,H7,n7,hn7,I7.unpinned,r7,q7⟩
theorem zcX {K:PySem.W.Frag}{a:Addr}{xs:List V}{g:TG}{tb:TSb}{D:zbp}{σ:St}{H:Hp}{n:Nat}(Pv:Nat→Nat→St→Hp→Prop)(h0:Pv 0 n σ H)(hl:∀i n σ H,i≤xs.length→Pv i n σ H→SqL K H a xs)
 (hs:∀i x n σ H,xs[i]?=some x→Pv i n σ H→g x σ H fun σ2 H2=>tb { D with nx:=Pv (i+1),ct:=Pv (i+1),bk:=D.nx } n σ2 H2) (hd:∀n σ H,Pv xs.length n σ H→D.nx n σ H) :
 ∃W:Nat→Nat→Nat→St→Hp→Prop,(∃m,W 0 m n σ H)∧∀i m n σ H,W i m n σ H→
  ((Itl K a).stop i H∧D.nx n σ H)∨((Itl K a).go i H∧∃N:Nat→St→Hp→Prop,(∀n' σ' H',N n' σ' H'→∃m',m'<m∧W (i+1) m' n' σ' H')∧∀x H',(Itl K a).yld i H x H'→g x σ H' fun σ2 H2=>tb { D with nx:=N,ct:=N,bk:=D.nx } n σ2 H2):=by
 refine⟨fun i m n σ H=>m=xs.length-i∧i≤xs.length∧Pv i n σ H,⟨xs.length,by simp,Nat.zero_le _,h0⟩,?_⟩
 rintro i m n σ H ⟨rfl,hi,p⟩
 have q:=hl i n σ H hi p
 by_cases hlt:i<xs.length
 ·refine .inr ⟨⟨xs,xs[i],q,by simp[hlt]⟩,Pv (i+1),fun n' σ' H' p'=>⟨xs.length-(i+1),by omega,rfl,hlt,p'⟩,fun x H' y=>?_⟩
  obtain⟨e,y⟩:=y
  subst e
  exact hs i x n σ _ (y xs q) p
 ·have e:i=xs.length:=by omega
  subst e
  exact .inl ⟨⟨xs,q,Nat.le_refl _⟩,hd n σ H p⟩
end
def d7 (J:It)(g:TG)(te:TEb)(acc:Addr)(N:Nat→Hp→Prop)(n:Nat)(σ:St)(H:Hp):Prop:=
 ∃W:Nat→Nat→Nat→St→Hp→Prop,(∃m,W 0 m n σ H)∧∀i m n σ H,W i m n σ H→
  (J.stop i H∧N n H)∨(J.go i H∧∃N':Nat→St→Hp→Prop,(∀n' σ' H',N' n' σ' H'→∃m',m'<m∧W (i+1) m' n' σ' H')∧∀x H',J.yld i H x H'→g x σ H' fun σ2 H2=>te n σ2 H2 fun n3 v H3=>∃xs,H3 acc=some (.lst xs)∧xs.length<sizeLine∧N' n3 σ2 (upd H3 acc (.lst (xs++[v]))))
section
variable {X:Cx}{elt tg iter:Expr}{scope:Scope}{pos:Pos}
theorem zba {g:TG}{te:TEb}{N:Nat→Hp→Prop}{J:It}{fp:List Addr}{it acc:Addr}{tn:Nat→Heap→Prop}{pins:List (Addr×Obj)}{s:Shared}{σ:St}{H:Hp}{n0:Nat}
 (hx:X.xe=fun _ _=>False) (hc:X.calm=true) (hgt:PG X tg g) (he:PEb X elt te)
 (T:Turn X.prog X.w X.K tg J fp it tn) (I:Inv X pins σ H s) (hn0:n0≤s.toks) (st:tn 0 s.heap) (f2:∀b∈fp,qa X pins H b) (w:d7 J g te acc N n0 σ H) :
 codeAny (model X.prog X.w) X.A (.compLoop (.ListComp elt [⟨tg,iter,[],0⟩] scope pos) 0 (.ref it) (.ref acc) X.env) (fun r s'=>match r with | .ok _=>∃σ' H' n',n'≤s'.toks∧Inv X pins σ' H' s'∧N n' H' | .error _=>False) s:=by
 obtain⟨W,⟨m0,w0⟩,turn⟩:=w
 have stat:∀{H':Hp},(∀b∈fp,H' b=none)→∀b∈fp,qa X pins H' b:=fun hn b hb=>⟨hn b hb,(f2 b hb).2⟩
 refine codeAny_loop rfl (fun m s'=>∃i σ' H' n',n'≤s'.toks∧Inv X pins σ' H' s'∧tn i s'.heap∧(∀b∈fp,H' b=none)∧W i m n' σ' H') ?_ m0 ⟨0,σ,H,n0,hn0,I,st,fun b hb=>(f2 b hb).1,w0⟩
 rintro m s3 ⟨i,σ3,H3,n3,hn3,I3,st3,fr3,w3⟩
 show wpAny _ X.A ((compTurn (.ListComp elt [⟨tg,iter,[],0⟩] scope pos) 0 (.ref it) (.ref acc) X.env).onRaise (fun x=>do noteFrame x X.env;theTreesLotGoes x)) _ _ s3
 refine wpAny_noted ?_
 rw[xa _ _ _ _ _ _ _ _ _ _ _ rfl]
 refine wpAny_bind (wpAny_standAt (wpAny_bind ?_))
 rcases turn i m n3 σ3 H3 w3 with⟨stop,qn⟩|⟨go,N',hN,step⟩
 ·refine kR hx hn3 (T.done X rfl rfl rfl hc i pins s3 σ3 H3 X.xe I3 (stat fr3) st3 stop) fun r s4 hn4 ⟨hr,I4⟩=>?_
  subst hr
  exact wpAny_pure ⟨σ3,H3,n3,hn4,I4,qn⟩
 ·refine kR hx hn3 (T.item X rfl rfl rfl hc i pins s3 σ3 H3 X.xe I3 (stat fr3) st3 go) fun r s4 hn4 ⟨u,hr,h4⟩=>?_
  subst hr
  refine wpAny_bind (kR hx hn4 h4 fun _ s5 hn5 ⟨x,H5,I5,r5,y5,st5,fr5⟩=>?_)
  have I5':=I5.pinned (stat fr5) (T.obj _ _ st5)
  refine wpAny_bind (kR hx hn5 (hgt _ s5 σ3 H5 x u _ I5' r5 (step x H5 y5)) fun _ s6 hn6 ⟨σ6,H6,I6,q6⟩=>?_)
  refine wpAny_bind (kR hx hn6 (zO (X:=X) _ s6 σ6 H6 (fun k H=>k=true∧H=H6) I6 ⟨rfl,rfl⟩) fun k s7 hn7 ⟨H7,I7,hk,hH⟩=>?_)
  subst hk hH
  dsimp only
  rw[if_pos rfl]
  show wpAny _ _ (qM elt [⟨tg,iter,[],0⟩] scope pos 0 (.ref it) (.ref acc) X.env) _ _ s7
  unfold qM
  dsimp only[List.length_cons,List.length_nil]
  refine wpAny_bind (wpAny_bind (kR hx (Nat.zero_le _) (he _ s7 σ6 H7 n3 _ I7 hn7 q6) fun v s8 _ ⟨y,H8,n8,hn8,I8,r8,xs,e,z,q⟩=>?_))
  refine wpAny_bind (kR hx hn8 (yr _ s8 σ6 H8 (.ref acc) [y] (.ref acc) [v] (fun _ H9=>N' n8 σ6 H9) I8 rfl (.cons r8 .nil) ⟨acc,xs,y,rfl,rfl,e,z,q⟩) fun _ s9 hn9 ⟨_,H9,I9,_,q9⟩=>?_)
  refine wpAny_pure (wpAny_pure ⟨rfl,?_⟩)
  obtain⟨m',hm,w9⟩:=hN n8 σ6 H9 q9
  refine⟨m',hm,i+1,σ6,H9,n8,hn9,I9.unpinned,T.keep _ _ _ st5 fun b hb o e=>(I9.pin (b,o) (List.mem_append_right _ (List.mem_append_right _ (zR hb e)))).1,fun b hb=>?_,w9⟩
  obtain⟨o,e,d⟩:=T.obj _ _ st5 b hb
  exact(I9.pin (b,o) (List.mem_append_right _ (List.mem_append_right _ (zR hb e)))).2.1
variable {N:List Str}{cap:List (Option Nat)}{wi:TI}{g:TG}{te:TEb}
theorem zar {pins:List (Addr×Obj)}{σ:St}{Q:VKb}{s2:Shared}{itv:Value}{cl:List (Str×Addr)}{n:Nat}{RR:Value→Addr→Result→Shared→Prop}(hc:X.calm=true)(ok:yW X.N X.env.scope N cap scope)
 (cl1:∀x c,cl.lookup x=some c→X.env.cells.lookup x=some c) (cl2:∀x∈scope.names,x.2=.free→∃c,cl.lookup x.1=some c)
 (hb:∀cl C s3 H3 fp,PG (X.blk N scope cl C s3 H3 fp) tg g∧PEb (X.blk N scope cl C s3 H3 fp) elt te) (hn:n≤s2.toks)
 (h:PIE X pins σ tg (fun J H1=>∀acc,H1 acc=none→d7 J g te acc (fun n' H2=>Q n' (.ref acc) H2) n (vP cap σ) (upd H1 acc (.lst []))) itv s2)
 (hR:∀(acc C:Addr) (H':Hp) (s':Shared) (m:Str→Option Value) (n':Nat),n'≤s'.toks→s'.heap.Ns C m→H' C=none→X.s₀.heap.objs.size≤C→C≠X.env.locals→(∀x c,X.env.cells.lookup x=some c→c≠C)→(∀p∈X.pn++pins,p.1≠C)→(∀h',Heap.SameBut C s'.heap h'→Inv X pins σ H' { s' with heap:=h' })→Q n' (.ref acc) H'→RR (.ref acc) C (.ok .next) s') :
 wpAny (model X.prog X.w) X.A (newList []) (fun acc s₃=>wpAny (model X.prog X.w) X.A (newFunctionEnv scope X.env.globals cl [] X.env.qual none .none (some X.env)) (fun cenv s₄=>
  codeAny (model X.prog X.w) X.A (.compStart (.ListComp elt [⟨tg,iter,[],0⟩] scope pos) 0 itv acc { cenv with scope:=relabel scope X.env }) (fun r s'=>match r with | .ok _=>RR acc cenv.locals (.ok .next) s' | .error _=>False) s₄) X.xe s₃) X.xe s2:=by
 obtain⟨it,fp,tn,J,H2,e,I2,T,st2,f2,q⟩:=h
 subst e
 refine wpAny_newObj_type (wpAny_newFunctionEnv ok.cell (by intro y hy;simp at hy) (fun h₁ hns₁ hsb₁=>?_) ok.kind)
 dsimp only at hns₁ hsb₁ ⊢
 have I3:=I2.lnew (its:=[]) (ys:=[]) (t':=s2.toks) .nil (Nat.zero_le _)
 have fr:H2 s2.heap.objs.size=none:=I2.hok.fresh (Nat.le_refl _)
 have hlt:∀b∈fp,b<s2.heap.objs.size:=fun b hb=>by
  obtain⟨o,e,_⟩:=T.obj 0 _ st2 b hb
  exact Heap.lt_size e
 generalize hS3:({ s2 with heap:=s2.heap.push { cls:=.type "list",dict:=none,data:=.seq ([]:List Value).toArray } }:Shared)=s3 at *
 have hS:s3.heap=s2.heap.push { cls:=.type "list",dict:=none,data:=.seq ([]:List Value).toArray }:=by rw[←hS3]
 have hT3:n≤s3.toks:=by rw[←hS3];exact hn
 have hsz:s3.heap.objs.size=s2.heap.objs.size+1:=by rw[hS,Heap.size_push]
 have I3':Inv X pins σ (upd H2 s2.heap.objs.size (.lst [])) s3:=I3
 have hf3:∀b∈fp,qa X pins (upd H2 s2.heap.objs.size (.lst [])) b∧b<s3.heap.objs.size:=fun b hb=>by
  have hl:=hlt b hb
  refine⟨⟨?_,(f2 b hb).2⟩,?_⟩
  ·rw[zf (Nat.ne_of_lt hl)];exact(f2 b hb).1
  ·rw[hsz];exact Nat.lt_succ_of_lt hl
 rw[←hS] at hns₁ hsb₁
 have kp:∀b o,s3.heap.get? b=some o→h₁.get? b=some o:=fun b o e=>hsb₁.extBut b o (Nat.ne_of_lt (Heap.lt_size e)) (Heap.get?_push_of_some _ e)
 have kp2:∀b o,s2.heap.get? b=some o→h₁.get? b=some o:=fun b o e=>kp b o (by rw[hS];exact Heap.get?_push_of_some _ e)
 rw[←hS]
 obtain⟨hb1,hb3⟩:=hb cl s3.heap.objs.size s3 (upd H2 s2.heap.objs.size (.lst [])) fp
 show codeAny _ _ (.compStart _ 0 (.ref it) (.ref s2.heap.objs.size) (compEnvC scope cl s3.heap.objs.size X.env)) _ _
 have I4:Inv (X.blk N scope cl s3.heap.objs.size s3 (upd H2 s2.heap.objs.size (.lst [])) fp) [] (vP cap σ) (upd H2 s2.heap.objs.size (.lst [])) { s3 with heap:=h₁,toks:=s3.toks }:=
  zbc (tk:=s3.toks) I3' ok cl1 cl2 hf3 rfl hns₁ kp
 have f4:∀b∈fp,qa (X.blk N scope cl s3.heap.objs.size s3 (upd H2 s2.heap.objs.size (.lst [])) fp) [] (upd H2 s2.heap.objs.size (.lst [])) b:=fun b hb=>by
  obtain⟨⟨g0,g1,g2,g3,g4,g5⟩,g6⟩:=hf3 b hb
  refine⟨g0,Nat.ne_of_lt g6,fun z=>?_,.inl hb,fun x c e=>g4 x c (cl1 x c e),fun p hp=>nomatch hp⟩
  rcases List.mem_cons.mp (I3'.stkSub b z) with z|z
  ·exact g1 z
  ·exact g2 z
 have st4:tn 0 h₁:=T.keep 0 _ _ st2 fun b hb o e=>kp2 b o e
 have lp:∀s4:Shared,s4={ s3 with heap:=h₁,toks:=s3.toks }→codeAny (model X.prog X.w) X.A (.compLoop (.ListComp elt [⟨tg,iter,[],0⟩] scope pos) 0 (.ref it) (.ref s2.heap.objs.size) (compEnvC scope cl s3.heap.objs.size X.env)) (fun r s'=>match r with | .ok _=>RR (.ref s2.heap.objs.size) s3.heap.objs.size (.ok .next) s' | .error _=>False) s4:=by
  intro s4 e4
  rw[e4]
  have lp:=zba (X:=X.blk N scope cl s3.heap.objs.size s3 (upd H2 s2.heap.objs.size (.lst [])) fp) (iter:=iter) (scope:=scope) (pos:=pos) (N:=fun n' H2'=>Q n' (.ref s2.heap.objs.size) H2') rfl hc hb1 hb3 T I4 hT3 st4 f4 (q _ fr)
  refine codeAny_mono lp fun r s' hr=>?_
  cases r with
  |error e=>exact hr
  |ok f=>
   obtain⟨σ',H',n',hn',I',q'⟩:=hr
   obtain⟨m,hn,_⟩:=I'.loc
   exact hR _ _ H' s' m n' hn' hn I'.free I3'.sz (Nat.ne_of_gt I3'.lt) (fun x c e=>by
    obtain⟨v,z⟩:=I3'.cell x c e
    exact Nat.ne_of_lt z.lt) (fun p hp=>Nat.ne_of_lt (Heap.lt_size (I3'.pin p hp).1)) (fun h' hs=>kP I3' I' (fun b hb=>(hf3 b hb).1) hs rfl) q'
 refine vy rfl (lp _ ?_) (T.self _ 0 _ _ _ st4 (lp _ ?_))
 ·rw[←hS3];rfl
 ·rw[←hS3];rfl
def zcn (i:Nat)(wi:TI)(cap:List (Option Nat))(g:TG)(te:TEb):TSb:=fun D n σ H=>wi σ H fun J H1=>∀acc,H1 acc=none→d7 J g te acc (fun n' H2=>D.nx n' (σ.set i (some (.ref acc))) H2) n (vP cap σ) (upd H1 acc (.lst []))
theorem p7 {i:Nat}{y:Str}{py spos:Pos}(hc:X.calm=true)(hok:zU X.N X.env.scope N cap scope=true)(hN:X.N.Nodup)(hy:X.N[i]?=some y)(hx:X.env.scope.names.lookup y=some .local)(hi:PI X tg iter wi)
 (hb:∀cl C s3 H3 fp,PG (X.blk N scope cl C s3 H3 fp) tg g∧PEb (X.blk N scope cl C s3 H3 fp) elt te)
 (hs:∀x,foldedSetIterable iter X.env x=pure x:=by intro _;rfl)
 (hsw:swapsWith (.ListComp elt [⟨tg,iter,[],0⟩] scope pos) (some (.Name y py)) spos.line X.env=pure true:=by rfl) :
 PSb X (.Assign [.Name y py] (.ListComp elt [⟨tg,iter,[],0⟩] scope pos) spos) (zcn i wi cap g te):=by
 intro pins s σ H n D I hn h
 have ok:=yy hok
 obtain⟨cl,e0,cl1,cl2⟩:=yc I ok
 rw[exec_Assign_Name_used _ _ _ _ hsw]
 refine wpAny_bind (wpAny_standAt (wpAny_bind ?_))
 show wpAny _ X.A (do let _ ←comprehension (.ListComp elt [⟨tg,iter,[],0⟩] scope pos) scope X.env _ (newList []) false (eval iter X.env) (some (assign (.Name y py) X.env))) _ _ s
 refine wpAny_bind (wpAny_mono (wpAny_comprehension_free (use:=some (assign (.Name y py) X.env)) (Q:=fun _ s'=>SPb X pins D .next s') rfl hs e0 ok.kind ok.names
  (qu hn (hi pins s σ H _ I h) fun v s1 hn1 h1=>qu hn1 h1 fun itv s2 hn2 h2=>?_)) (fun _ s' hq=>wpAny_pure (wpAny_pure hq)) fun _ _ e=>e)
 refine thn (zar (RR:=fun acc C=>compPost (model X.prog X.w) X.A X.xe (some (assign (.Name y py) X.env)) (fun _ s'=>SPb X pins D .next s') acc C) (Q:=fun n' v H2=>D.nx n' (σ.set i (some v)) H2) hc ok cl1 cl2 hb hn2 h2 ?_) fun acc s3 h3=>thn h3 fun cenv s4 h4=>codeAny_mono h4 fun r s' hr=>?_
 ·intro acc C H' s' m n' hn' hn hfr hC1 hC2 hC3 hC4 hI q
  have I':Inv X pins σ H' s':=hI s'.heap (.refl ..)
  show wpAny _ _ (assign (.Name y py) X.env (.ref acc)) _ _ s'
  refine qu (Q:=fun _ s2=>∃m,s2.heap.Ns C m∧∀h',Heap.SameBut C s2.heap h'→Inv X pins (σ.set i (some (.ref acc))) H' { s2 with heap:=h' }) hn' (wpAny_assign_Name (xq I' hN hy (.inl hx) (v:=.ref acc) rfl (fun s2 I2 ⟨a,hsa,ha⟩=>?_) (.inr hx))) fun _ s2 hn2 ⟨m,hm,q2⟩=>⟨m,hm,fun h' hs'=>⟨_,H',n',hn2,q2 h' hs',q⟩⟩
  have haC:C≠a:=by
   rcases ha with z|z
   ·rw[z];exact hC2
   ·exact Ne.symm (hC3 y a z)
  exact⟨m,hn.sameBut hsa haC,fun h' hs'=>I2.turned (it:=C) (t':=s2.toks) (fun b o hb e=>hs'.extBut b o hb e) hfr hC2 (.inr hC1) hC3 hC4⟩
 ·cases r with
  |ok f=>exact hr
  |error e=>exact False.elim hr
end
end
section
section
variable {X:Cx}
theorem OpRb.imp {f:Value→Value→Sem Value}{r r':Nat→V→V→Hp→VKb→Prop}(h:OpRb X f r)(i:∀n x y H Q,r' n x y H Q→r n x y H Q):OpRb X f r':=fun pins s σ H n x y v u Q I hn rx ry q=>h pins s σ H n x y v u Q I hn rx ry (i _ _ _ _ _ q)
def zhn:Nat→V→V→Hp→VKb→Prop:=fun n x y H Q=>∃(a:Str) (t:Nat) (b:Str) (u:Nat),x=.tst a t∧y=.tst b u∧(0<t∧t<n)∧(0<u∧u<n)∧a.length+b.length≤sizeLine∧∀(r n':Nat),0<r→r<n'→n≤n'→Q n' (.tst (a++b) r) H
theorem bX {a:Str}(h:a.length=0):a=Str.empty:=by
 obtain⟨⟨l⟩⟩:=a
 have h:l.length=0:=h
 rw[List.eq_nil_of_length_eq_zero h];rfl
theorem zbV:OpRb X (binaryOp .Add) zhn:=op_addb.imp fun n x y H Q h=>by
 obtain⟨a,t,b,u,e1,e2,ht,hu,hl,k⟩:=h
 refine⟨a,t,b,u,e1,e2,hl,?_⟩
 by_cases ha:a.length=0
 ·rw[if_pos ha]
  have:=k u n hu.1 hu.2 (Nat.le_refl _)
  rw[bX ha,Str.empty_append] at this
  exact this
 ·rw[if_neg ha]
  by_cases hb:b.length=0
  ·rw[if_pos hb]
   have:=k t n ht.1 ht.2 (Nat.le_refl _)
   rw[bX hb,Str.append_empty] at this
   exact this
  ·rw[if_neg hb]
   exact fun r hr=>k r (r+1) (by omega) (by omega) (by omega)
def y8 (k:Nat)(l:List Nat):Str:=⟨((List.replicate k l).flatten).toArray⟩
theorem zdD (k:Nat)(a:Str):(⟨(List.replicate k a.cps).foldl (·++·) #[]⟩:Str)=y8 k a.cps.toList:=by
 have go:∀(l:List (Array Nat)) (acc:Array Nat),(l.foldl (·++·) acc).toList=acc.toList++(l.map Array.toList).flatten:=by
  intro l
  induction l with
  |nil=>intro acc;simp
  |cons x r ih=>intro acc;rw[List.foldl_cons,ih];simp
 have e:=go (List.replicate k a.cps) #[]
 rw[List.map_replicate] at e
 unfold y8
 congr 1
 apply Array.toList_inj.mp
 rw[e];simp
def zhf:Nat→V→V→Hp→VKb→Prop:=fun n x y H Q=>∃(a:Str) (t:Nat) (k:Nat),x=.tst a t∧y=.int (k:Int)∧(0<t∧t<n)∧k≤1000∧a.length≤1000∧∀(r n':Nat),0<r→r<n'→n≤n'→Q n' (.tst (y8 k a.cps.toList) r) H
theorem zbU:OpRb X (binaryOp .Mult) zhf:=op_mulb.imp fun n x y H Q h=>by
 obtain⟨a,t,k,e1,e2,ht,hk,hl,q⟩:=h
 refine⟨a,t,(k:Int),e1,e2,by omega,by omega,hl,?_⟩
 by_cases h1:(k:Int)<1
 ·rw[if_pos h1]
  have:k=0:=by omega
  subst this
  exact fun r hr=>q r (r+1) (by omega) (by omega) (by omega)
 ·rw[if_neg h1]
  by_cases h2:(k:Int)=1∨a.length=0
  ·rw[if_pos h2]
   have:=q t n ht.1 ht.2 (Nat.le_refl _)
   have e:y8 k a.cps.toList=a:=by
    rcases h2 with h2|h2
    ·have:k=1:=by omega
     subst this
     obtain⟨⟨l⟩⟩:=a
     show(⟨([l].flatten).toArray⟩:Str)=_
     simp
    ·rw[bX h2]
     show(⟨((List.replicate k []).flatten).toArray⟩:Str)=_
     simp
     rfl
   rw[e] at this
   exact this
  ·rw[if_neg h2]
   intro r hr
   rw[Int.toNat_natCast,zdD]
   exact q r (r+1) (by omega) (by omega) (by omega)
def zdl (ws:List Str):TAb:=fun n _ H Q=>∀(ts:List Nat) (n':Nat),n≤n'→ts.length=ws.length→(∀t∈ts,n≤t∧t<n')→Q n' (List.zipWith V.tst ws ts) H
theorem gr:∀{es:List Expr}(ws:List Str),strsOf es=some ws→PAb X es (zdl ws)
 |[],ws,h=>by
  have e:ws=[]:=by
   have:some ([]:List Str)=some ws:=h
   injection this with this
   exact this.symm
  subst e
  intro pos pins s σ H n Q I hn q
  exact pa_nil.b pos pins s σ H n Q I hn (q [] n (Nat.le_refl _) rfl fun t ht=>nomatch ht)
 | .Constant (.str x) k p::r,ws,h=>by
  have h':(strsOf r).map (x::·)=some ws:=h
  obtain⟨l,hl,rfl⟩:=Option.map_eq_some_iff.mp h'
  intro pos pins s σ H n Q I hn q
  refine z7 kI (gr l hl) rfl pos pins s σ H n Q I hn ?_
  intro t ht ts n' hn' hts hb
  refine q (t::ts) n' (by omega) (by simp[hts]) ?_
  intro u hu
  rcases List.mem_cons.mp hu with rfl|hu
  ·omega
  ·have:=hb u hu
   omega
end
end
section
end
section
section
variable {prog:Program}{w:World}{A:Around}{E:Value→Shared→Prop}{s:Shared}{κ:SortKind}{LT:Keyed→Keyed→Bool}{S:Keyed→Prop}{a0:Array Keyed}
theorem ft (o:Ord S LT)(hl:zeH prog w A E s κ S LT){st:SortSt}{Q:Unit→SortSt→Prop}(hs:kindOf st=κ)(hf:failedOf st=none)(hp:pendingOf st = #[])(h63:(arrOf st).size≤63)(hall:∀(j:Nat) (x:Keyed),(arrOf st)[j]?=some x→S x)
 (h:∀st',(arrOf st').toList.Perm (arrOf st).toList→failedOf st'=none→(arrOf st').toList.Pairwise (leO LT)→Q () st'):wpS (model prog w) A E s sortRuns' Q st:=by
 generalize ea:arrOf st=a0 at hall h h63
 rw[sortRuns'_eq]
 refine wpS_bind (wpS_get ?_)
 dsimp only
 rw[ea]
 have hmr:0<a0.size→minRun' a0.size a0.size 0=a0.size:=fun h0=>by
  obtain⟨r,hr⟩:∃r,a0.size=r+1:=⟨a0.size-1,by omega⟩
  rw[hr,minRun'_succ,if_pos (by omega)]
 generalize minRun' a0.size a0.size 0=mr at hmr
 have sw0:Sw κ LT a0 0 st:=⟨by rw[ea],hs,hf,by rw[hp];rfl⟩
 refine wpS_bind (wpS_mono (wpS_forRange (I:=fun i c st'=>∃lo,c=(none,lo)∧i≤lo∧lo≤a0.size∧Sw κ LT a0 lo st'∧((lo=0∧pendingOf st' = #[])∨(lo=a0.size∧(pendingOf st').size≤1))) (Q:=fun c st'=>∃lo,c=(none,lo)∧Sw κ LT a0 a0.size st'∧(pendingOf st').size≤1) ?step ?fin ⟨0,rfl,Nat.le_refl _,Nat.zero_le _,sw0,.inl ⟨rfl,hp⟩⟩) ?post)
 case fin=>
  rintro c st' ⟨lo,rfl,h1,h2,sw,hc⟩
  have:lo=a0.size:=by omega
  subst this
  refine⟨_,rfl,sw,?_⟩
  rcases hc with⟨_,e⟩|⟨_,e⟩
  ·rw[e];decide
  ·exact e
 case step=>
  rintro i c st' _ hi ⟨lo,rfl,h1,h2,sw,hc⟩
  dsimp only
  by_cases hge:lo≥a0.size
  ·rw[if_pos hge]
   have:lo=a0.size:=by omega
   subst this
   refine wpS_pure ⟨_,rfl,sw,?_⟩
   rcases hc with⟨_,e⟩|⟨_,e⟩
   ·rw[e];decide
   ·exact e
  rw[if_neg hge]
  obtain⟨rfl,hpe⟩:lo=0∧pendingOf st' = #[]:=by
   rcases hc with e|⟨e,_⟩
   ·exact e
   ·omega
  have hz:=sw.size
  have hm:=hmr (by omega)
  refine wpS_bind (fu o hl sw.kind (sw.all hall) (by omega) (by omega) fun m a rn hm1 hm2 sr=>?_)
  dsimp only
  have sw1:Sw κ LT a0 0 (setArr st' a):=⟨rn.perm.trans sw.perm,sw.kind,sw.failed,sw.runs.keep fun j j1 j2=>rn.out j (.inl j2)⟩
  by_cases hlt:m<mr
  ·rw[if_pos hlt]
   refine wpS_bind (wpS_lift (wpAny_rule ⟨rfl,?_⟩))
   have z1:=sw1.size
   refine wpS_bind (yX o hl sw1.kind (sw1.all hall) (by omega) hm1 (by omega) sr fun b rn2 sr2=>?_)
   rw[if_neg (by decide)]
   have sw2:Sw κ LT a0 0 (setArr (setArr st' a) b):=⟨rn2.perm.trans sw1.perm,sw1.kind,sw1.failed,sw1.runs.keep fun j j1 j2=>rn2.out j (.inl j2)⟩
   replace sr2:SR LT (arrOf (setArr (setArr st' a) b)) 0 (0+min (a0.size-0) mr):=sr2
   have hpe2:pendingOf (setArr (setArr st' a) b) = #[]:=hpe
   have hn0:min (a0.size-0) mr=a0.size:=by omega
   rw[hn0] at sr2 ⊢
   generalize setArr (setArr st' a) b=st1 at sw2 sr2 hpe2 ⊢
   refine wpS_bind (wpS_get ?_)
   rw[hpe2]
   dsimp only[Array.back?]
   exact wpS_bind (wpS_modify (wpS_pure ⟨_,rfl,by omega,by omega,sw2.push sr2 (by omega),.inr ⟨by omega,by show((pendingOf st1).push _).size≤1;rw[hpe2];exact Nat.le_refl 1⟩⟩))
  ·rw[if_neg hlt]
   have sw2:=sw1
   have em:m=a0.size:=by omega
   subst em
   have sr2:SR LT (arrOf (setArr st' a)) 0 (0+a0.size):=sr
   have hpe2:pendingOf (setArr st' a) = #[]:=hpe
   generalize setArr st' a=st1 at sw2 sr2 hpe2 ⊢
   refine wpS_bind (wpS_get ?_)
   rw[hpe2]
   dsimp only[Array.back?]
   exact wpS_bind (wpS_modify (wpS_pure ⟨_,rfl,by omega,by omega,sw2.push sr2 (by omega),.inr ⟨by omega,by show((pendingOf st1).push _).size≤1;rw[hpe2];exact Nat.le_refl 1⟩⟩))
 case post=>
  rintro c st' ⟨lo,rfl,sw,hle⟩
  dsimp only
  refine wpS_bind (wpS_mono (wpS_forRange (I:=fun j c st2=>c=(none,())∧Sw κ LT a0 a0.size st2∧(pendingOf st2).size≤1) (Q:=fun c st2=>c=(none,())∧Sw κ LT a0 a0.size st2∧(pendingOf st2).size≤1) ?_ (fun _ _ hh=>hh) ⟨rfl,sw,hle⟩) ?_)
  ·rintro j c st2 _ hj ⟨rfl,sw3,hz⟩
   refine wpS_bind (wpS_get ?_)
   rw[if_pos hz]
   exact wpS_pure ⟨rfl,sw3,hz⟩
  ·rintro c st2 ⟨rfl,sw3,hz⟩
   refine wpS_pure (h st2 sw3.perm sw3.failed ?_)
   have rr:=sw3.runs
   have z:=sw3.size
   have hz':(pendingOf st2).toList.length≤1:=by simpa using hz
   have so:SR LT (arrOf st2) 0 a0.size:=by
    generalize (pendingOf st2).toList=l at rr hz'
    match l,rr,hz' with
    |[],rr,_=>
     have:0=a0.size:=rr
     intro i j x y h1 h2 h3
     omega
    |[(s,n,p)],rr,_=>
     obtain⟨_,_,g,e⟩:=rr
     have e:0+n=a0.size:=e
     rw[←e];exact g
   rw[List.pairwise_iff_getElem]
   intro i j hi hj hij
   have hi':i<(arrOf st2).size:=by simpa using hi
   have hj':j<(arrOf st2).size:=by simpa using hj
   exact so i j _ _ (Nat.zero_le _) hij (by omega) (by rw[←Array.getElem?_toList];exact List.getElem?_eq_getElem hi) (by rw[←Array.getElem?_toList];exact List.getElem?_eq_getElem hj)
end
section
variable {prog:Program}{w:World}{A:Around}{E:Value→Shared→Prop}{s:Shared}{a:Addr}{vs:List Value}{LT:Value→Value→Bool}
theorem zcq {n:Nat}{P:PySem.Fin→Shared→Prop}(ho:s.heap.get? a=some (seqObj "list" vs.toArray n))(hz:vs.length≤63)(o:Ord (·∈vs) LT)
 (hk:2≤vs.length→∀h',(∀b o,b≠a→s.heap.get? b=some o→h'.get? b=some o)→∃κ:SortKind,
   (∀Q:SortKind→Shared→Prop,Q κ { s with heap:=h' }→wpAny (model prog w) A (keyKind' vs.toArray) Q E { s with heap:=h' })∧
   ∀u v (C:Bool→Shared→Prop),u∈vs→v∈vs→C (LT u v) { s with heap:=h' }→wpAny (model prog w) A (keyLt' κ u v) C (fun _ _=>False) { s with heap:=h' })
 (h:∀out:List Value,out.Perm vs→out.Pairwise (leO LT)→P (.done (.ret .none)) { s with heap:=sortedHeap s.heap a vs out.toArray }):wpAny (model prog w) A (Builtin.«list.sort» ⟨[.ref a],[]⟩) P E s:=by
 have ha:a<s.heap.objs.size:=Heap.lt_size ho
 have hsl:sizeLine=16777216:=sizeLine_eq
 rw[list_sort_plain]
 refine wpAny_bind (listItems_at ho rfl ?_)
 refine wpAny_bind (listUpdate_at ho rfl ?_ (by rw[List.size_toArray];omega) (Nat.zero_le _))
 obtain⟨e1,ho1⟩:∃e1,(s.heap.update a (Obj.mapSeq fun _=>(#[]:Array Value))).get? a=some (seqObj "list" #[] e1):=⟨_,get?_update_seq ho (fun _=>#[])⟩
 refine wpAny_bind (seqEpoch_at ho1 rfl ?_)
 refine wpAny_bind (wpAny_newTuple ?_ (by show vs.length≤_;omega))
 refine wpAny_bind (wpAny_newList ?_ (Nat.zero_le _))
 refine wpAny_holding ?_
 have ho6:(((s.heap.update a (Obj.mapSeq fun _=>(#[]:Array Value))).push (seqObj "tuple" vs.toArray 0)).push (seqObj "list" #[] 0)).get? a=some (seqObj "list" #[] e1):=by
  rw[Heap.get?_push_ne _ _ _ (by rw[size_push',Heap.size_update];exact Nat.ne_of_lt (Nat.lt_succ_of_lt ha)),Heap.get?_push_ne _ _ _ (by rw[Heap.size_update];exact Nat.ne_of_lt ha)]
  exact ho1
 have kp:∀b o,b≠a→s.heap.get? b=some o→(((s.heap.update a (Obj.mapSeq fun _=>(#[]:Array Value))).push (seqObj "tuple" vs.toArray 0)).push (seqObj "list" #[] 0)).get? b=some o:=fun b o hb e=>by
  have hlt:=Heap.lt_size e
  rw[Heap.get?_push_ne _ _ _ (by rw[size_push',Heap.size_update];exact Nat.ne_of_lt (Nat.lt_succ_of_lt hlt)),Heap.get?_push_ne _ _ _ (by rw[Heap.size_update];exact Nat.ne_of_lt hlt),Heap.get?_update_ne _ _ _ _ hb]
  exact e
 show wpAny (model prog w) A _ P E { s with heap:=((s.heap.update a (Obj.mapSeq fun _=>(#[]:Array Value))).push (seqObj "tuple" vs.toArray 0)).push (seqObj "list" #[] 0) }
 dsimp only
 by_cases h2:vs.toArray.size<2
 ·rw[if_pos h2,if_pos h2]
  refine wpAny_bind (wpAny_pure ?_)
  rw[StateT.run_pure]
  refine wpAny_bind (wpAny_pure ?_)
  dsimp only
  refine wpAny_bind (seqEpoch_at ho6 rfl ?_)
  have e2:(arrOf (SortSt.mk' general' (vs.toArray.zip vs.toArray) #[] 7 none)).map (·.2)=vs.toArray:=zcB vs
  rw[e2]
  refine wpAny_bind (listUpdate_at ho6 rfl ?_ (Nat.zero_le _) (hsz2:=by rw[List.size_toArray];omega))
  simp only[bne_self_eq_false,Bool.false_eq_true,if_false]
  refine wpAny_pure (h vs (.refl _) ?_)
  rw[List.size_toArray] at h2
  match vs,h2 with
  |[],_=>exact .nil
  |[_],_=>exact List.pairwise_singleton ..
 ·rw[if_neg h2,if_neg h2]
  have h2':2≤vs.length:=by rw[List.size_toArray] at h2;omega
  obtain⟨κ,hkk,hcc⟩:=hk h2' _ kp
  refine wpAny_bind (hkk _ ?_)
  have mem:∀p∈(pairsOf vs).toList,p.1=p.2∧p.1∈vs:=fun p hp=>by rw[pairsOf_toList] at hp;exact mem_zip_self hp
  have run:=ft (E:=E) (κ:=κ) (S:=fun p=>p.1∈vs) (LT:=fun p q=>LT p.1 q.1) (st:=SortSt.mk' κ (pairsOf vs) #[] 7 none) (Q:=fun _ st'=>(arrOf st').toList.Perm (pairsOf vs).toList∧failedOf st'=none∧(arrOf st').toList.Pairwise (leO fun p q=>LT p.1 q.1))
   ⟨fun x y hx hy=>o.asym _ _ hx hy,fun x y z hx hy hz=>o.trans _ _ _ hx hy hz⟩ (zfn hcc) rfl rfl rfl (by show(pairsOf vs).size≤63;rw[←Array.length_toList,pairsOf_toList,List.length_zip];omega) (fun j x e=>(mem x (zee e)).2) fun st' e1 e2 e3=>⟨e1,e2,e3⟩
  refine wpAny_bind (wpAny_mono run ?_ fun _ _ e=>e)
  rintro⟨⟨⟩,st'⟩ s' ⟨rfl,hp,hf,hso⟩
  dsimp only at hp hf hso ⊢
  refine wpAny_bind (seqEpoch_at ho6 rfl ?_)
  have out:(arrOf st').map (·.2)=((arrOf st').toList.map (·.1)).toArray:=by
   apply Array.toList_inj.mp
   rw[Array.toList_map,List.toList_toArray]
   exact List.map_congr_left fun p hp'=>(mem p (hp.mem_iff.mp hp')).1.symm
  have pm:((arrOf st').toList.map (·.1)).Perm vs:=by
   have:=hp.map (·.1)
   rw[pairsOf_toList,List.map_fst_zip (Nat.le_refl _)] at this
   exact this
  rw[out]
  refine wpAny_bind (listUpdate_at ho6 rfl ?_ (Nat.zero_le _) (hsz2:=by rw[List.size_toArray,pm.length_eq];omega))
  rw[hf]
  simp only[bne_self_eq_false,Bool.false_eq_true,if_false]
  refine wpAny_pure (h _ pm ?_)
  exact List.pairwise_map.mpr hso
theorem pQ {l:Addr}{Q:Value→Shared→Prop}(hl:s.heap.IsList l vs.toArray)(hz:vs.length≤63)(o:Ord (·∈vs) LT)
 (hk:2≤vs.length→∀h',(∀b o,s.heap.get? b=some o→h'.get? b=some o)→∃κ:SortKind,
   (∀Q:SortKind→Shared→Prop,Q κ { s with heap:=h' }→wpAny (model prog w) A.in1.in1 (keyKind' vs.toArray) Q (fun _ _=>False) { s with heap:=h' })∧
   ∀u v (C:Bool→Shared→Prop),u∈vs→v∈vs→C (LT u v) { s with heap:=h' }→wpAny (model prog w) A.in1.in1 (keyLt' κ u v) C (fun _ _=>False) { s with heap:=h' })
 (h:∀out:List Value,out.Perm vs→out.Pairwise (leO LT)→Q (.ref (s.heap.objs.size+1)) { s with heap:=sortedAll s.heap vs out.toArray }) :
 wpAny (model prog w) A (call (.builtin "sorted") [.ref l]) Q E s:=by
 have hsl:sizeLine=16777216:=sizeLine_eq
 refine PySem.Calls.call_function_entry kind_sorted plain_sorted entry_sorted (args_sorted1 _) ?_
 unfold Builtin.«sorted»
 refine wpAny_bind (m:=checkCount "sorted" 1 1 _) (wpAny_pure ?_)
 refine wpAny_bind (collect_list hl ?_ (by omega))
 refine wpAny_bind (wpAny_newList ?_ (by omega))
 have hsz:((s.heap.push (seqObj "list" #[] 0)).update s.heap.objs.size (Obj.mapSeq (·++vs.toArray))).objs.size=s.heap.objs.size+1:=by
  rw[Heap.size_update,size_push']
 have hoL:(((s.heap.push (seqObj "list" #[] 0)).update s.heap.objs.size (Obj.mapSeq (·++vs.toArray))).push (seqObj "list" vs.toArray 0)).get? (s.heap.objs.size+1)=some (seqObj "list" vs.toArray 0):=by
  rw[←hsz];exact Heap.get?_push_size _ rfl
 have keep:∀b o,s.heap.get? b=some o→(((s.heap.push (seqObj "list" #[] 0)).update s.heap.objs.size (Obj.mapSeq (·++vs.toArray))).push (seqObj "list" vs.toArray 0)).get? b=some o:=fun b o q=>by
  have hlt:b<s.heap.objs.size:=Heap.lt_size q
  rw[Heap.get?_push_ne _ _ _ (by rw[hsz];exact Nat.ne_of_lt (Nat.lt_succ_of_lt hlt)),Heap.get?_update_ne _ _ _ _ (Nat.ne_of_lt hlt),Heap.get?_push_ne _ _ _ (Nat.ne_of_lt hlt)]
  exact q
 show wpAny _ _ _ _ _ { s with heap:=((s.heap.push (seqObj "list" #[] 0)).update s.heap.objs.size (Obj.mapSeq (·++vs.toArray))).push (seqObj "list" vs.toArray 0) }
 rw[hsz]
 refine wpAny_bind (wpAny_holding (wpAny_call_entry slot_list_sort ⟨_,hoL,rfl⟩ entry_list_sort (zcq (s:={ s with heap:=((s.heap.push (seqObj "list" #[] 0)).update s.heap.objs.size (Obj.mapSeq (·++vs.toArray))).push (seqObj "list" vs.toArray 0) }) hoL hz o (fun hh2 h3 hk3=>?_) fun out p1 p2=>⟨_,rfl,?_⟩) (args_list_sort _)))
 ·obtain⟨κ,k1,k2⟩:=hk hh2 h3 fun b o e=>hk3 b o (Nat.ne_of_lt (Nat.lt_succ_of_lt (Heap.lt_size e))) (keep b o e)
  exact⟨κ,fun Q q=>wpAny_mono (k1 Q q) (fun _ _ x=>x) fun _ _ x=>x.elim,k2⟩
 ·exact wpAny_pure ⟨_,rfl,h out p1 p2⟩
end
def zeX (K:PySem.W.Frag)(VC:Hp→V→List Int→Prop):List V→Hp→VK→Prop:=fun xs H Q=>∃(l:Addr) (vs:List V) (cs:List (List Int)),xs=[.ref l]∧SqL K H l vs∧Paired (VC H) vs cs∧vs.length≤63∧
 ∀(q:Addr) (ws:List V) (ds:List (List Int)),H q=none→ws.Perm vs→Paired (VC H) ws ds→ds.Perm cs→ds.Pairwise leC→Q (.ref q) (upd H q (.lst ws))
theorem yU {X:Cx}{K:PySem.W.Frag}{VC:Hp→V→List Int→Prop}{HC:Heap→Value→List Int→Prop}(hK:X.K=K)(sc:SCode X VC HC):CallR X (.builtin "sorted") (zeX K VC):=by
 subst hK
 intro pins s σ H xs us Q I rv h
 obtain⟨l,vs,cs,rfl,hl,hc,hz,q⟩:=h
 obtain⟨u,rfl,ru⟩:=vals1 rv
 obtain rfl:u=Value.ref l:=ru
 obtain⟨its,r,p,_⟩:=I.list hl
 have hlen:its.length=vs.length:=(Vals.length r).symm
 have hcode:∀u∈its,∃c,HC s.heap u c:=fun u hu=>by
  obtain⟨v,hv,rvu⟩:=Paired.memR r hu
  obtain⟨c,_,hc'⟩:=Paired.memL hc hv
  exact⟨c,sc.down I hc' rvu⟩
 obtain⟨cf,hcf⟩:∃cf:Value→List Int,∀u∈its,HC s.heap u (cf u):=by
  classical
  refine⟨fun u=>if h:∃c,HC s.heap u c then h.choose else[],fun u hu=>?_⟩
  have h:=hcode u hu
  dsimp only
  rw[dif_pos h]
  exact h.choose_spec
 refine pQ (vs:=its) (LT:=fun u v=>HT.lexLt (cf u) (cf v)) p.isList (by omega) ⟨fun x y _ _ h=>zai _ _ h,fun x y z _ _ _ h1 h2=>zej _ _ _ h1 h2⟩ (fun h2 h' hk=>?_) fun out p1 p2=>?_
 ·obtain⟨κ,k1,k2⟩:=sc.asks (s:={ s with heap:=h' }) (vs:=its) (fun v hv=>⟨_,sc.keep hk (hcf v hv)⟩) h2
  exact⟨κ,k1,fun u v C hu hv hC=>k2 u v _ _ C (sc.keep hk (hcf u hu)) (sc.keep hk (hcf v hv)) hC⟩
 ·obtain⟨ws,w1,w2⟩:=Paired.perm p1 r
  obtain⟨ds,d1,d2⟩:=Paired.permL w2 hc
  obtain⟨e,he⟩:=sortedAll_at s.heap its out.toArray
  have hsl:sizeLine=16777216:=sizeLine_eq
  have dmap:∀(ws:List V) (out:List Value) (ds:List (List Int)),(∀u∈out,u∈its)→Paired RelV ws out→Paired (VC H) ws ds→ds=out.map cf:=by
   intro ws
   induction ws with
   |nil=>
    intro out ds _ a b
    cases a;cases b;rfl
   |cons v ws ih=>
    intro out ds hm a b
    cases a with
    |cons a1 a2=>
     cases b with
     |cons b1 b2=>
      rw[List.map_cons,ih _ _ (fun u hu=>hm u (List.mem_cons_of_mem _ hu)) a2 b2,sc.uniq (sc.down I b1 a1) (hcf _ (hm _ (List.mem_cons_self ..)))]
  have ed:=dmap ws out ds (fun u hu=>p1.mem_iff.mp hu) w1 d1
  refine⟨.ref (s.heap.objs.size+1),_,I.laid (a:=s.heap.objs.size+1) (o:=.lst ws) (t':=s.toks) (fun b ob e'=>sortedAll_old e') (Nat.le_succ _) ⟨by rw[w2.length_eq];omega,out,e,w1,he⟩,rfl,q _ ws ds (I.hok.fresh (Nat.le_succ _)) w2 d1 d2 ?_⟩
  rw[ed]
  exact List.pairwise_map.mpr p2
end
section
structure zC (K:PySem.W.Frag)(mg:Str→Option Value)(x:Str)(st:Stmt)(ps:List Str)(f:Addr)(fd:FuncData):Prop where
 fn:Fun K x x st f fd
 mg:mg x=some (.ref f)
 bd:Binds K fd ps []
theorem PI.or {X:Cx}{tg it:Expr}{wi wi':TI}(h:PI X tg it wi)(h':PI X tg it wi'):PI X tg it (fun σ H R=>wi σ H R∨wi' σ H R):=fun pins s σ H R I q=>by
 rcases q with q|q
 ·exact h pins s σ H R I q
 ·exact h' pins s σ H R I q
end
end L2
namespace My
open PySem L2
section
theorem fsc_ {N P:List Str}{sc:Scope}(a:sc.kind=.function:=by rfl)(b:sc.isCoroutine=false:=by rfl)(c:sc.isGenerator=false:=by rfl)(d:N.Nodup:=by decide +kernel)(e:N.take P.length=P:=by rfl)(f:∀x∈P,sc.names.lookup x=some .local∨sc.names.lookup x=some .cell:=by decide +kernel)(g:∀y∈sc.names,y.2≠.free:=by decide +kernel):zl N P sc:=⟨a,b,c,d,e,f,g⟩
def top (i:Nat):Stmt:=PySem.Challenge.pw_toldsums_k37_desk_refused.main.body.getD i (.Pass ⟨0,0,0,0⟩)
structure Txt (mg:Str→Option Value):Prop where
 b_len:mg "len"=none
 b_sum:mg "sum"=none
 b_range:mg "range"=none
 b_tuple:mg "tuple"=none
 b_list:mg "list"=none
 b_int:mg "int"=none
 b_str:mg "str"=none
 b_bool:mg "bool"=none
 b_isinstance:mg "isinstance"=none
 b_min:mg "min"=none
 b_max:mg "max"=none
 b_zip:mg "zip"=none
 b_reversed:mg "reversed"=none
 b_sorted:mg "sorted"=none
 b_abs:mg "abs"=none
 b_all:mg "all"=none
 b_any:mg "any"=none
 b_set:mg "set"=none
 b_ValueError:mg "ValueError"=none
theorem mod_lt (x m:Int)(h:0<m):0≤x%m∧x%m<m:=⟨Int.emod_nonneg _ (by omega),Int.emod_lt_of_pos _ h⟩
theorem mulL {x:Int}(y m:Int)(h:0<m)(hm:m<2^64):CMul (x%m) y:=by
 have:=mod_lt x m h
 left
 omega
end
end My
namespace L2
open PySem PySem.Spec PyProof.Rows
section
theorem xZ {lo:Int}{n:Nat}{g:TG}{t:TT}{b:TB}{N:St→Hp→Prop}{σ:St}{H:Hp}(Pv:Nat→St→Hp→Prop)(h0:Pv 0 σ H)
 (hs:∀i σ H,i<n→Pv i σ H→g (.int (lo+i)) σ H fun σ2 H2=>t σ2 H2 fun k H3=>if k=true then b σ2 H3 (Pv (i+1)) else Pv (i+1) σ2 H3) (hd:∀σ H,Pv n σ H→N σ H):vO (Itr lo n) g t b N σ H:=
 bE (tb:=fun D σ2 H2=>t σ2 H2 fun k H3=>if k=true then b σ2 H3 D.nx else D.nx σ2 H3) (D:={ nx:=N,rt:=fun _ _=>True }) Pv h0 hs hd
theorem qG {K:PySem.W.Frag}{a:Addr}{xs:List V}{g:TG}{t:TT}{b:TB}{N:St→Hp→Prop}{σ:St}{H:Hp}(Pv:Nat→St→Hp→Prop)(h0:Pv 0 σ H)(hl:∀i σ H,i≤xs.length→Pv i σ H→SqL K H a xs)
 (hs:∀i x σ H,xs[i]?=some x→Pv i σ H→g x σ H fun σ2 H2=>t σ2 H2 fun k H3=>if k=true then b σ2 H3 (Pv (i+1)) else Pv (i+1) σ2 H3) (hd:∀σ H,Pv xs.length σ H→N σ H):vO (Itl K a) g t b N σ H:=
 gM (tb:=fun D σ2 H2=>t σ2 H2 fun k H3=>if k=true then b σ2 H3 D.nx else D.nx σ2 H3) (D:={ nx:=N,rt:=fun _ _=>True }) Pv h0 hl hs hd
theorem pz {K:PySem.W.Frag}{a:Addr}{xs:List V}{g:TG}{t:TT}{b:TB}{N:St→Hp→Prop}{σ:St}{H:Hp}(Pv:Nat→St→Hp→Prop)(h0:Pv 0 σ H)(hl:∀i σ H,i≤xs.length→Pv i σ H→SqT K H a xs)
 (hs:∀i x σ H,xs[i]?=some x→Pv i σ H→g x σ H fun σ2 H2=>t σ2 H2 fun k H3=>if k=true then b σ2 H3 (Pv (i+1)) else Pv (i+1) σ2 H3) (hd:∀σ H,Pv xs.length σ H→N σ H):vO (Itt K a) g t b N σ H:=
 zb6 (tb:=fun D σ2 H2=>t σ2 H2 fun k H3=>if k=true then b σ2 H3 D.nx else D.nx σ2 H3) (D:={ nx:=N,rt:=fun _ _=>True }) Pv h0 hl hs hd
theorem zeE (ns:List Int){r:Int}(h0:0≤r)(h1:r<ns.length):∃n,atI (ns.map V.int) r=some (.int n)∧n∈ns∧ns[r.toNat]?=some n:=by
 obtain⟨j,rfl⟩:=Int.eq_ofNat_of_zero_le h0
 have hj:j<ns.length:=by omega
 refine⟨ns[j],qP ?_,List.getElem_mem hj,?_⟩
 ·rw[List.getElem?_map,List.getElem?_eq_getElem hj];rfl
 ·rw[Int.toNat_natCast];exact List.getElem?_eq_getElem hj
theorem size_le {n:Nat}(h:n≤1000000):n≤sizeLine:=Nat.le_trans h (by decide)
theorem zS {n:Nat}(h:n≤1000000):n<sizeLine:=Nat.lt_of_le_of_lt h (by decide)
end
end L2
namespace My
open PySem L2
section
def Scr (K:PySem.W.Frag)(H:Hp)(a:Addr)(scr:List Int):Prop:=SqL K H a (scr.map V.int)∧scr.length≤63
theorem Scr.same {K:PySem.W.Frag}{H H':Hp}{a:Addr}{scr:List Int}(h:Scr K H a scr)(s:Same H H'):Scr K H' a scr:=⟨s.seq h.1,h.2⟩
def zc0 (c:Int):Nat→Int
 |0=>c
 |i+1=>zc0 c i/1000003
def gF (scr:List Int):Int:=if((scr.map V.int).length:Int)>1 then((scr.map V.int).length:Int) else 1
def cellOf (scr:List Int)(n:Int):Int:=(scr++[0])[(n%gF scr).toNat]?.getD 0
def turnsOf (scr:List Int)(n:Int):Int:=if 60<n/gF scr then 60 else n/gF scr
def zF (scr:List Int)(n:Int):Int:=
 let c:=cellOf scr n
 if c≥10^(Int.toNat 18)∨c≤-(10^(Int.toNat 18)) then zc0 c (turnsOf scr n).toNat%1000003
 else
  let m:=(c%2147483629+17+68209*(n/gF scr))*47791%2147483629
  m*m%2147483587*38839%2147483579
def zaL (K:PySem.W.Frag):Sp:=fun vs H Q _=>∃(a:Addr) (scr:List Int) (n:Int),vs=[.ref a,.int n]∧Scr K H a scr∧0≤n∧n<1000000∧∀(H':Hp),Same H H'→Q (.int (zF scr n)) H'
section
variable {P:Program}{w:World}{K:PySem.W.Frag}{mg:Str→Option Value}{base:Heap}
abbrev vj:Stmt:=top 63
theorem sc_law_draw:zl ["script","k","many","cell","turn","mixed"] ["script","k"] (zd vj):=fsc_
theorem zfe {f:Addr}{fd:FuncData}(F:Fun K "_law_draw" "_law_draw" vj f fd)(T:Txt mg):FnOk P w K mg base CX0 1 f fd ["script","k"] (zaL K):=by
 refine F.ok sc_law_draw (fun vs H Q E h=>?_) (fun cdv A outer s H vs Q E hr h=>?_)
 ·obtain⟨a,scr,n,rfl,_⟩:=h
  rfl
 ·obtain⟨a,scr,n,rfl,⟨hS,hl⟩,n0,n1,k⟩:=h
  refine⟨_,(ze (zm (i:=2) sc_law_draw.nd rfl (Or.inl rfl) (zt (zc3 rfl) (by rfl) T.b_max PyProof.Rows.Boot.«max» (za zg (za (zt (gY (K:=K) rfl) (by rfl) T.b_len PyProof.Rows.Boot.«len» (za (pv 0) pa_nil)) pa_nil))))
   (ze (zm (i:=3) sc_law_draw.nd rfl (Or.inl rfl) (zJ (ixL (K:=K) rfl) (zk qg (jo (zhO (K:=K) rfl) (by rfl) T.b_list PyProof.Rows.Boot.«list» (za (pv 0) pa_nil)) (zG (za zg pa_nil))) (zk qI (pv 1) (pv 2)) (fun _ _=>rfl)))
   (ze (z4 (PW.pt (ba (zw zht (pv 3) (zk zd0 zg zg) (zx _)) (yl (zw gw (pv 3) (zbQ bT (zk zd0 zg zg)) (zx _)))))
     (ze (dg PassesOwn.never rfl (ym (by rfl) T.b_range (za (zt (zc2 rfl) (by rfl) T.b_min PyProof.Rows.Boot.«min» (za (zk gx (pv 1) (pv 2)) (za zg pa_nil))) pa_nil)) (zr (i:=4) sc_law_draw.nd rfl (Or.inl rfl))
       (zi (zm (i:=3) sc_law_draw.nd rfl (Or.inl rfl) (zk gx (pv 3) zg))))
     (zi (zp (zk qI (pv 3) zg))))
     zD)
   (ze (zm (i:=5) sc_law_draw.nd rfl (Or.inl rfl) (zk qI (zk dw (zk vX (zk vX (zk qI (pv 3) zg) zg) (zk dw zg (zk gx (pv 1) (pv 2)))) zg) zg))
   (ze (zm (i:=5) sc_law_draw.nd rfl (Or.inl rfl) (zk qI (zk dw (pv 5) (pv 5)) zg))
   (zi (zp (zk qI (zk dw (pv 5) zg) zg)))))))),?_⟩
  have hlm:(scr.map V.int).length=scr.length:=List.length_map _
  refine⟨_,rfl,a,_,rfl,.inl hS,_,_,rfl,?_⟩
  obtain⟨sz,hsz⟩:∃sz:Int,(if((scr.map V.int).length:Int)>1 then((scr.map V.int).length:Int) else 1)=sz:=⟨_,rfl⟩
  have sz0:0<sz:=by rw[←hsz];split<;>omega
  have sz1:sz≤scr.length+1:=by rw[←hsz];split<;>omega
  rw[hsz]
  have hM:gF scr=sz:=hsz
  dsimp only[zq]
  refine⟨_,rfl,a,_,rfl,.inl hS,fun l1 hl1=>⟨by show 1≤sizeLine;decide,fun l2 hl2=>⟨l1,l2,_,_,rfl,rfl,(zf (zc zb hl2)).trans zb,zb,size_le (by rw[hlm];show scr.length+1≤1000000;omega),fun l3 hl3=>?_⟩⟩⟩
  have S3:Same H (upd (upd (upd H l1 (.lst (scr.map V.int))) l2 (.lst [.int 0])) l3 (.lst (scr.map V.int++[.int 0]))):=(Same.lay hl1).trans ((Same.lay hl2).trans (Same.lay hl3))
  have hc3:upd (upd (upd H l1 (.lst (scr.map V.int))) l2 (.lst [.int 0])) l3 (.lst (scr.map V.int++[.int 0])) l3=some (.lst ((scr++[0]).map V.int)):=by rw[zb,List.map_append];rfl
  generalize upd (upd (upd H l1 (.lst (scr.map V.int))) l2 (.lst [.int 0])) l3 (.lst (scr.map V.int++[.int 0]))=H3 at S3 hc3
  have⟨m0,m1⟩:=mod_lt n sz sz0
  obtain⟨cell,hcell,_,hat⟩:=zeE (scr++[0]) m0 (by rw[List.length_append];simp only[List.length_cons,List.length_nil];omega)
  have hC:cellOf scr n=cell:=by unfold cellOf;rw[hM,hat];rfl
  have hD:zF scr n=if cell≥10^(Int.toNat 18)∨cell≤-(10^(Int.toNat 18)) then zc0 cell (turnsOf scr n).toNat%1000003
   else(cell%2147483629+17+68209*(n/sz))*47791%2147483629*((cell%2147483629+17+68209*(n/sz))*47791%2147483629)%2147483587*38839%2147483579:=by
   unfold zF
   rw[hM,hC]
  have hTn:turnsOf scr n=if 60<n/sz then 60 else n/sz:=by unfold turnsOf;rw[hM]
  refine⟨_,rfl,_,rfl,_,_,rfl,rfl,sz0,l3,_,_,_,rfl,rfl,SqL.of hc3,hcell,?_⟩
  dsimp only[zq]
  have t0:0≤n/sz:=Int.ediv_nonneg n0 (by omega)
  refine⟨_,rfl,_,_,rfl,rfl,⟨by decide,by decide,by decide⟩,_,_,rfl,rfl,_,rfl,jB (fun e1=>jN ?y1) (fun e1=>⟨_,rfl,_,_,rfl,rfl,⟨by decide,by decide,by decide⟩,_,rfl,_,_,rfl,rfl,_,rfl,jB (fun e2=>?y2) (fun e2=>?n)⟩)⟩
  case y1|y2=>
   have big:cell≥10^(Int.toNat 18)∨cell≤-(10^(Int.toNat 18)):=by first|exact .inl (of_decide_eq_true e1)|exact .inr (of_decide_eq_true e2)
   refine⟨_,rfl,_,rfl,_,_,rfl,rfl,⟨sz0,by omega⟩,_,_,rfl,_,rfl,by split<;>omega,by split<;>omega,bE (fun i σ H'=>∃(v4:Option V),σ=[some (.ref a),some (.int n),some (.int sz),some (.int (zc0 cell i)),v4,none]∧H'=H3) ⟨none,rfl,rfl⟩ ?_ ?_⟩
   ·rintro i σ H' _ ⟨v4,rfl,rfl⟩
    exact⟨_,rfl,_,_,rfl,rfl,⟨by decide,by decide⟩,_,rfl,rfl⟩
   ·rintro σ H' ⟨v4,rfl,rfl⟩
    refine⟨_,rfl,_,_,rfl,rfl,(by show(0:Int)<_;decide),?_⟩
    have e:=k H' S3
    rw[hD,if_pos big,hTn] at e
    have e60:(if 60<n/sz then(60:Int) else n/sz)=(if n/sz>60 then(60:Int) else n/sz):=rfl
    first
     |exact e
     |(have e7:∀z z':Int,z=z'→Q (.int (zc0 cell z.toNat%1000003)) H'→Q (.int (zc0 cell z'.toNat%1000003)) H':=fun z z' q r=>q▸r
       refine e7 _ _ ?_ e
       split<;>split<;>omega)
  case n=>
   have nb:¬(cell≥10^(Int.toNat 18)∨cell≤-(10^(Int.toNat 18))):=fun z=>z.elim (fun z=>e1 (decide_eq_true z)) fun z=>e2 (decide_eq_true z)
   refine⟨_,rfl,_,_,rfl,rfl,(by show(0:Int)<_;decide),_,_,rfl,rfl,_,rfl,_,rfl,_,_,rfl,rfl,⟨sz0,by omega⟩,_,_,rfl,rfl,.inl ⟨by decide,by decide⟩,_,_,rfl,rfl,_,_,rfl,rfl,.inr ⟨by decide,by decide⟩,_,_,rfl,rfl,(by show(0:Int)<_;decide),?_⟩
   dsimp only[zq]
   refine⟨_,rfl,_,rfl,_,_,rfl,rfl,mulL _ _ (by decide) (by decide),_,_,rfl,rfl,(by show(0:Int)<_;decide),?_⟩
   dsimp only[zq]
   refine⟨_,rfl,_,_,rfl,rfl,mulL _ _ (by decide) (by decide),_,_,rfl,rfl,(by show(0:Int)<_;decide),?_⟩
   have e:=k H3 S3
   rw[hD,if_neg nb] at e
   exact e
end
end
section
def jL (ns:List Int)(k:Nat):Int:=(ns.take k).sum
def xK (ns:List Int)(i:Nat):List Int:=(List.range (i+1)).map (jL ns)
theorem zcw {ns:List Int}{i:Nat}{n:Int}(h:ns[i]?=some n):jL ns (i+1)=jL ns i+n:=by
 unfold jL
 rw[List.take_add_one,h,List.sum_append]
 simp
theorem gj (ns:List Int)(i:Nat):xK ns i=(List.range i).map (jL ns)++[jL ns i]:=by
 unfold xK
 rw[List.range_succ,List.map_append];rfl
theorem zaS (ns:List Int)(i:Nat):xK ns (i+1)=xK ns i++[jL ns (i+1)]:=by
 rw[gj ns (i+1)];rfl
theorem zcv (ns:List Int)(i:Nat):(xK ns i).length=i+1:=by unfold xK;simp
theorem bc (ns:List Int)(n k:Nat)(h:k≤n):(xK ns n)[k]?=some (jL ns k):=by
 unfold xK
 rw[List.getElem?_map,List.getElem?_range (by omega)];rfl
def jC (lo j:Nat):List (Nat×Nat):=(List.range j).map fun t=>(lo,lo+1+t)
theorem gL (lo j:Nat):jC lo (j+1)=jC lo j++[(lo,lo+1+j)]:=by
 unfold jC
 rw[List.range_succ,List.map_append];rfl
def vG (n i:Nat):List (Nat×Nat):=(List.range i).flatMap fun lo=>jC lo (n-lo)
def prs (n:Nat):List (Nat×Nat):=vG n n
theorem wa (n i:Nat):vG n (i+1)=vG n i++jC i (n-i):=by
 unfold vG
 rw[List.range_succ,List.flatMap_append];simp
theorem zbP {n lo hi:Nat}(h:(lo,hi)∈prs n):lo<hi∧hi≤n:=by
 unfold prs vG at h
 obtain⟨l,h1,h2⟩:=List.mem_flatMap.mp h
 unfold jC at h2
 obtain⟨t,h3,h4⟩:=List.mem_map.mp h2
 have e1:l=lo:=congrArg Prod.fst h4
 have e2:l+1+t=hi:=congrArg Prod.snd h4
 have:=List.mem_range.mp h1
 have:=List.mem_range.mp h3
 omega
theorem j8 {α:Type}(f:α→Bool){l:List α}{i:Nat}{x:α}(h:l[i]?=some x):(l.take (i+1)).filter f=(l.take i).filter f++(if f x then[x] else[]):=by
 rw[List.take_add_one,h,List.filter_append]
 cases hx:f x<;>simp[hx]
def TupsAt {α:Type}(g:α→List V)(H:Hp)(xs:List V)(ps:List α):Prop:=xs.length=ps.length∧∀(i:Nat) (p:α),ps[i]?=some p→∃a,xs[i]?=some (.ref a)∧H a=some (.tup (g p))
theorem TupsAt.nil {α:Type}{g:α→List V}{H:Hp}:TupsAt g H [] []:=⟨rfl,fun i p h=>by simp at h⟩
theorem TupsAt.mono {α:Type}{g:α→List V}{H H':Hp}{xs:List V}{ps:List α}(h:TupsAt g H xs ps)(k:∀a zs,H a=some (.tup zs)→H' a=some (.tup zs)):TupsAt g H' xs ps:=
 ⟨h.1,fun i p e=>let ⟨a,h1,h2⟩:=h.2 i p e;⟨a,h1,k a _ h2⟩⟩
theorem TupsAt.snoc {α:Type}{g:α→List V}{H:Hp}{xs:List V}{ps:List α}{a:Addr}{p:α}(h:TupsAt g H xs ps)(ha:H a=some (.tup (g p))):TupsAt g H (xs++[.ref a]) (ps++[p]):=by
 refine⟨by rw[List.length_append,List.length_append,h.1];rfl,fun i q e=>?_⟩
 by_cases hi:i<ps.length
 ·rw[List.getElem?_append_left hi] at e
  obtain⟨b,h1,h2⟩:=h.2 i q e
  exact⟨b,by rw[List.getElem?_append_left (by rw[h.1];exact hi)];exact h1,h2⟩
 ·have hl:i<(ps++[p]).length:=(List.getElem?_eq_some_iff.mp e).1
  rw[List.length_append] at hl
  have hi2:i=ps.length:=by simp only[List.length_cons,List.length_nil] at hl;omega
  subst hi2
  rw[List.getElem?_append_right (Nat.le_refl _)] at e
  simp only[Nat.sub_self,List.getElem?_cons_zero,Option.some.injEq] at e
  subst e
  refine⟨a,?_,ha⟩
  rw[←h.1,List.getElem?_append_right (Nat.le_refl _)];simp
def g2 (p:Nat×Nat):List V:=[.int p.1,.int p.2]
def g3 (ns:List Int)(p:Nat×Nat):List V:=[.int p.1,.int p.2,.int (jL ns p.2-jL ns p.1)]
theorem kC {H:Hp}{l:Addr}{xs:List V}{o:HO}(h:H l=some (.lst xs)):∀a zs,H a=some (.tup zs)→upd H l o a=some (.tup zs):=fun a zs e=>by rw[zf (wQ e h (by intro z;cases z))];exact e
theorem gb {H H':Hp}(s:Same H H'):∀a zs,H a=some (.tup zs)→H' a=some (.tup zs):=fun a zs e=>s _ _ e
def RowAt (H:Hp)(p:Addr)(ns:List Int):Prop:=H p=some (.tup (ns.map V.int))∧ns.length≤1000
def zdr:Sp:=fun vs H Q _=>∃p ns,vs=[.ref p]∧RowAt H p ns∧∀q H',H' q=some (.tup ((xK ns ns.length).map V.int))→Same H H'→Q (.ref q) H'
section
variable {P:Program}{w:World}{K:PySem.W.Frag}{mg:Str→Option Value}{base:Heap}
abbrev vg:Stmt:=top 11
theorem sc_sums_ahead:zl ["row","ahead","number"] ["row"] (zd vg):=fsc_
theorem fB {f:Addr}{fd:FuncData}(F:Fun K "sums_ahead" "sums_ahead" vg f fd)(T:Txt mg):FnOk P w K mg base CX0 1 f fd ["row"] zdr:=by
 refine F.ok sc_sums_ahead (fun vs H Q E h=>?_) (fun cdv A outer s H vs Q E hr h=>?_)
 ·obtain⟨p,ns,rfl,_⟩:=h
  rfl
 ·obtain⟨p,ns,rfl,⟨hp,hl⟩,k⟩:=h
  refine⟨_,(ze (zm (i:=1) sc_sums_ahead.nd rfl (Or.inl rfl) (zG (za zg pa_nil)))
   (ze (dg PassesOwn.never rfl (piT (K:=K) rfl (pv 0)) (zr (i:=2) sc_sums_ahead.nd rfl (Or.inl rfl))
     (zi (dh (gq PySem.F.plainAttrs_list PySem.F.slot_list_append PySem.F.type_list_append yr (pv 1) (za (zk vX (zJ (ixL (K:=K) rfl) (pv 1) (zbQ bT zg) (fun _ _=>rfl)) (pv 2)) pa_nil)))))
   (zi (zp (jo (zeA (K:=K) rfl) (by rfl) T.b_tuple PyProof.Rows.Boot.«tuple» (za (pv 1) pa_nil)))))),?_⟩
  refine⟨by show 1≤sizeLine;decide,fun l hl1=>?_⟩
  have S1:Same H (upd H l (.lst [.int 0])):=Same.lay hl1
  refine⟨_,rfl,p,rfl,⟨_,SqT.of (S1 _ _ hp)⟩,zb6 (xs:=ns.map V.int) (fun i σ H'=>∃v2:Option V,σ=[some (.ref p),some (.ref l),v2]∧Same H H'∧H' l=some (.lst ((xK ns i).map V.int))) ?_ ?_ ?_ ?_⟩
  ·exact⟨none,rfl,S1,zb⟩
  ·rintro i σ H' _ ⟨v2,rfl,S',_⟩
   exact SqT.of (S' _ _ hp)
  ·rintro i x σ H' hx ⟨v2,rfl,S',ha⟩
   obtain⟨n,hn,rfl⟩:∃n,ns[i]?=some n∧V.int n=x:=by rw[List.getElem?_map] at hx;exact Option.map_eq_some_iff.mp hx
   have hi:i<ns.length:=(List.getElem?_eq_some_iff.mp hn).1
   have ha':H' l=some (.lst (((List.range i).map (jL ns)).map V.int++[.int (jL ns i)])):=by rw[ha,gj,List.map_append];rfl
   refine⟨_,rfl,.inl ⟨rfl,_,SqL.of ha⟩,_,rfl,1,rfl,l,_,_,_,rfl,rfl,SqL.of ha',zeD _ _,_,rfl,_,_,rfl,rfl,l,_,_,rfl,rfl,ha,zS (by rw[List.length_map,zcv];omega),?_⟩
   refine⟨_,rfl,fun b o e=>by rw[zf (zc e hl1)];exact S' b o e,?_⟩
   rw[zb,zaS,List.map_append,zcw hn];rfl
  ·rintro σ H' ⟨v2,rfl,S',ha⟩
   rw[List.length_map] at ha
   exact⟨_,rfl,l,_,rfl,.inl ⟨SqL.of ha,fun q hq=>k q _ zb (S'.trans (Same.lay hq))⟩⟩
def zfM:Sp:=fun vs H Q _=>∃p ns,vs=[.ref p]∧RowAt H p ns∧∀q xs H',H' q=some (.lst xs)→TupsAt g2 H' xs (prs ns.length)→Same H H'→Q (.ref q) H'
abbrev qB:Stmt:=top 12
theorem sc_stretches_of:zl ["row","many"] ["row"] (zd qB):=fsc_
theorem ka {f:Addr}{fd:FuncData}(F:Fun K "stretches_of" "stretches_of" qB f fd)(T:Txt mg):FnOk P w K mg base CX0 1 f fd ["row"] zfM:=by
 refine F.ok sc_stretches_of (fun vs H Q E h=>?_) (fun cdv A outer s H vs Q E hr h=>?_)
 ·obtain⟨p,ns,rfl,_⟩:=h
  rfl
 ·obtain⟨p,ns,rfl,⟨hp,hl⟩,k⟩:=h
  refine⟨_,(ze (zm (i:=1) sc_stretches_of.nd rfl (Or.inr rfl) (zt (gY (K:=K) rfl) (by rfl) T.b_len PyProof.Rows.Boot.«len» (za (pv 0) pa_nil)))
   (zi (zp (qc (N:=["low","high","many"]) (cap:=[none,none,some 1]) rfl (show zU ["row","many"] (zd qB) ["low","high","many"] [none,none,some 1] _=true by decide +kernel) (ym (by rfl) T.b_range (za (pv 1) pa_nil)) (fun cl C s3 H3 fp=>⟨(zr (i:=0) (show(["low","high","many"]:List Str).Nodup by decide +kernel) rfl (Or.inl rfl)),zO,fun it acc=>(ze9 rfl rfl rfl (zcy (by rfl) T.b_range (za (zk vX (pv 0) zg) (za (zk vX (pv 2) zg) pa_nil))) (zr (i:=1) (show(["low","high","many"]:List Str).Nodup by decide +kernel) rfl (Or.inl rfl)) zO (fun it1=>(zI rfl (zL (za (pv 0) (za (pv 1) pa_nil))))))⟩))))),?_⟩
  refine⟨_,rfl,p,_,rfl,.inr (SqT.of hp),?_⟩
  have hlm:(ns.map V.int).length=ns.length:=List.length_map _
  refine⟨_,rfl,_,rfl,by omega,by omega,fun acc hacc=>?_⟩
  refine xZ (fun i σ H'=>∃(v1 v2:Option V) (xs:List V),σ=[v1,v2,some (.int ((ns.map V.int).length:Int))]∧H' acc=some (.lst xs)∧TupsAt g2 H' xs (vG ns.length i)∧xs.length≤i*1000∧Same H H') ?_ ?_ ?_
  ·exact⟨none,none,[],rfl,zb,TupsAt.nil,by simp,Same.lay hacc⟩
  ·rintro i σ H' hi ⟨v1,v2,xs,rfl,ha,ht,hx,S'⟩
   have hi':i<ns.length:=by omega
   refine⟨_,rfl,_,_,rfl,rfl,_,rfl,_,_,rfl,rfl,_,_,rfl,⟨by omega,by omega,by omega,by omega⟩,?_⟩
   have ej:((((ns.map V.int).length:Int)+1)-(0+(i:Int)+1)).toNat=ns.length-i:=by omega
   rw[ej]
   refine xZ (fun j σ H'=>∃(v2:Option V) (xs:List V),σ=[some (.int (0+(i:Int))),v2,some (.int ((ns.map V.int).length:Int))]∧H' acc=some (.lst xs)∧TupsAt g2 H' xs (vG ns.length i++jC i j)∧xs.length≤i*1000+j∧Same H H') ?_ ?_ ?_
   ·exact⟨v2,xs,rfl,ha,by simpa[jC] using ht,by omega,S'⟩
   ·rintro j σ H2 hj ⟨v2,xs,rfl,ha,ht,hx,S'⟩
    refine⟨_,rfl,_,rfl,by show 2≤sizeLine;decide,fun a hna=>⟨xs,(zf (zc ha hna)).trans ha,zS (by omega),_,_,rfl,zb,?_,by rw[List.length_append];simp only[List.length_cons,List.length_nil];omega,?_⟩⟩
    ·have e1:(0:Int)+(i:Int)=((i:Nat):Int):=by omega
     have e2:(0:Int)+(i:Int)+1+(j:Int)=((i+1+j:Nat):Int):=by omega
     rw[gL,←List.append_assoc]
     refine TupsAt.snoc (ht.mono fun b zs e=>?_) ?_
     ·rw[zf (wQ e ha (by intro z;cases z)),zf (zc e hna)];exact e
     ·rw[zf (Ne.symm (zc ha hna)),zb,e2,e1];rfl
    ·exact fun b o e=>by rw[zf (zc e hacc),zf (zc (S' b o e) hna)];exact S' b o e
   ·rintro σ H2 ⟨v2,xs,rfl,ha,ht,hx,S'⟩
    exact⟨_,_,xs,rfl,ha,by rw[wa];exact ht,by omega,S'⟩
  ·rintro σ H' ⟨v1,v2,xs,rfl,ha,ht,hx,S'⟩
   have e:(((ns.map V.int).length:Int)).toNat=ns.length:=by omega
   rw[e] at ht
   exact k acc xs H' ha ht S'
theorem bf (n:Nat)(hn:n≤1000):∀i,i≤n→(vG n i).length≤i*1000
 |0,_=>by simp[vG]
 |i+1,h=>by
  have ih:=bf n hn i (by omega)
  rw[wa,List.length_append]
  have:(jC i (n-i)).length=n-i:=by unfold jC;simp
  omega
theorem dj (n:Nat)(hn:n≤1000):(prs n).length≤1000000:=by
 have:=bf n hn n (Nat.le_refl _)
 unfold prs
 omega
end
end
section
def SumsAt (ns:List Int)(H:Hp)(xs:List V)(ps:List (Nat×Nat)):Prop:=xs.length=ps.length∧∀(i:Nat) (p:Nat×Nat),ps[i]?=some p→∃a b,xs[i]?=some (.ref a)∧H a=some (.tup [.int (jL ns p.2-jL ns p.1),.ref b])∧H b=some (.tup (g2 p))
theorem SumsAt.nil {ns:List Int}{H:Hp}:SumsAt ns H [] []:=⟨rfl,fun i p h=>by simp at h⟩
theorem SumsAt.mono {ns:List Int}{H H':Hp}{xs:List V}{ps:List (Nat×Nat)}(h:SumsAt ns H xs ps)(k:∀a zs,H a=some (.tup zs)→H' a=some (.tup zs)):SumsAt ns H' xs ps:=
 ⟨h.1,fun i p e=>let ⟨a,b,h1,h2,h3⟩:=h.2 i p e;⟨a,b,h1,k a _ h2,k b _ h3⟩⟩
theorem SumsAt.snoc {ns:List Int}{H:Hp}{xs:List V}{ps:List (Nat×Nat)}{a b:Addr}{p:Nat×Nat}(h:SumsAt ns H xs ps)(ha:H a=some (.tup [.int (jL ns p.2-jL ns p.1),.ref b]))(hb:H b=some (.tup (g2 p))):SumsAt ns H (xs++[.ref a]) (ps++[p]):=by
 refine⟨by rw[List.length_append,List.length_append,h.1];rfl,fun i q e=>?_⟩
 by_cases hi:i<ps.length
 ·rw[List.getElem?_append_left hi] at e
  obtain⟨c,c2,h1,h2,h3⟩:=h.2 i q e
  exact⟨c,c2,by rw[List.getElem?_append_left (by rw[h.1];exact hi)];exact h1,h2,h3⟩
 ·have hl:i<(ps++[p]).length:=(List.getElem?_eq_some_iff.mp e).1
  rw[List.length_append] at hl
  have hi2:i=ps.length:=by simp only[List.length_cons,List.length_nil] at hl;omega
  subst hi2
  rw[List.getElem?_append_right (Nat.le_refl _)] at e
  simp only[Nat.sub_self,List.getElem?_cons_zero,Option.some.injEq] at e
  subst e
  refine⟨a,b,?_,ha,hb⟩
  rw[←h.1,List.getElem?_append_right (Nat.le_refl _)];simp
def hb (ns:List Int)(t:Int→Bool)(p:Nat×Nat):Bool:=t (jL ns p.2-jL ns p.1)
def za4 (ns:List Int)(t:Int→Bool):List (Nat×Nat):=(prs ns.length).filter (hb ns t)
theorem take_succ {α:Type}{l:List α}{i:Nat}{x:α}(h:l[i]?=some x):l.take (i+1)=l.take i++[x]:=by
 rw[List.take_add_one,h];rfl
def vS:Sp:=fun vs H Q _=>∃p ns,vs=[.ref p]∧RowAt H p ns∧∀q xs H',H q=none→H' q=some (.lst xs)→SumsAt ns H' xs (prs ns.length)→Same H H'→Q (.ref q) H'
section
variable {P:Program}{w:World}{K:PySem.W.Frag}{mg:Str→Option Value}{base:Heap}
abbrev zB:Stmt:=top 13
theorem sc_summed_stretches:zl ["row","ahead"] ["row"] (zd zB):=fsc_
theorem xD {f fa fs:Addr}{fd fda fds:FuncData}(F:Fun K "summed_stretches" "summed_stretches" zB f fd)(T:Txt mg)(D_sums_ahead:zC K mg "sums_ahead" vg ["row"] fa fda)(D_stretches_of:zC K mg "stretches_of" qB ["row"] fs fds) :
 FnOk P w K mg base CX0 2 f fd ["row"] vS:=by
 have G_sums_ahead:FnOk P w K mg base CX0 1 fa fda ["row"] zdr:=fB D_sums_ahead.fn T
 have G_stretches_of:FnOk P w K mg base CX0 1 fs fds ["row"] zfM:=ka D_stretches_of.fn T
 refine F.ok sc_summed_stretches (fun vs H Q E h=>?_) (fun cdv A outer s H vs Q E hr h=>?_)
 ·obtain⟨p,ns,rfl,_⟩:=h
  rfl
 ·obtain⟨p,ns,rfl,⟨hp,hl⟩,k⟩:=h
  refine⟨_,(ze (zm (i:=1) sc_summed_stretches.nd rfl (Or.inr rfl) (zo G_sums_ahead (hr.mono (by decide)) rfl D_sums_ahead.mg D_sums_ahead.fn.kp D_sums_ahead.bd .nil zv (za (pv 0) pa_nil)))
   (zi (zp (qc (N:=["low","high","ahead"]) (cap:=[none,none,some 1]) rfl (show zU ["row","ahead"] (zd zB) ["low","high","ahead"] [none,none,some 1] _=true by decide +kernel) (piL (K:=K) rfl (zo G_stretches_of (hr.mono (by decide)) rfl D_stretches_of.mg D_stretches_of.fn.kp D_stretches_of.bd .nil zv (za (pv 0) pa_nil))) (fun cl C s3 H3 fp=>⟨(pgT (K:=K) (n:=2) rfl rfl (zP (zr (i:=0) (show(["low","high","ahead"]:List Str).Nodup by decide +kernel) rfl (Or.inl rfl)) (zP (zr (i:=1) (show(["low","high","ahead"]:List Str).Nodup by decide +kernel) rfl (Or.inl rfl)) vq))),zO,fun it acc=>(zI rfl (zL (za (zk du (zJ (ixT (K:=K) rfl) (pv 2) (pv 1) (fun _ _=>rfl)) (zJ (ixT (K:=K) rfl) (pv 2) (pv 0) (fun _ _=>rfl))) (za (zL (za (pv 0) (za (pv 1) pa_nil))) pa_nil))))⟩))))),?_⟩
  refine⟨_,rfl,p,ns,rfl,⟨hp,hl⟩,fun q1 H1 hq1 S1=>?_⟩
  refine⟨_,rfl,p,ns,rfl,⟨S1 _ _ hp,hl⟩,fun q2 ys H2 hq2 ht2 S2=>⟨q2,rfl,⟨_,SqL.of hq2⟩,fun acc hacc=>?_⟩⟩
  have hq1':=S2 _ _ hq1
  have plen:=dj ns.length hl
  refine qG (xs:=ys) (fun i σ H'=>∃(v1 v2:Option V) (xs:List V),σ=[v1,v2,some (.ref q1)]∧H' acc=some (.lst xs)∧SumsAt ns H' xs ((prs ns.length).take i)∧Same H2 H') ?_ ?_ ?_ ?_
  ·exact⟨none,none,[],rfl,zb,SumsAt.nil,Same.lay hacc⟩
  ·rintro i σ H' _ ⟨v1,v2,xs,rfl,ha,ht,S'⟩
   exact SqL.of (S' _ _ hq2)
  ·rintro i y σ H' hy ⟨v1,v2,xs,rfl,ha,ht,S'⟩
   have hi:i<(prs ns.length).length:=by rw[←ht2.1];exact(List.getElem?_eq_some_iff.mp hy).1
   obtain⟨a,e1,e2⟩:=ht2.2 i _ (List.getElem?_eq_getElem hi)
   rw[hy] at e1
   have e1:y=.ref a:=Option.some.inj e1
   subst e1
   obtain⟨⟨lo,hi'⟩,hpr⟩:∃pr,(prs ns.length)[i]=pr:=⟨_,rfl⟩
   have hg:(prs ns.length)[i]?=some (lo,hi'):=by rw[List.getElem?_eq_getElem hi,hpr]
   rw[hpr] at e2
   obtain⟨m1,m2⟩:=zbP (List.mem_of_getElem? hg)
   have xlen:xs.length≤1000000:=by
    rw[ht.1,List.length_take];omega
   refine⟨a,_,rfl,SqT.of (S' _ _ e2),rfl,_,_,rfl,_,_,rfl,rfl,?_⟩
   refine⟨_,rfl,_,rfl,q1,_,_,_,rfl,rfl,SqT.of (S' _ _ hq1'),qP (by rw[List.getElem?_map,bc ns _ _ m2];rfl),_,rfl,_,rfl,q1,_,_,_,rfl,rfl,SqT.of (S' _ _ hq1'),qP (by rw[List.getElem?_map,bc ns _ _ (by omega)];rfl),_,_,rfl,rfl,?_⟩
   refine⟨_,rfl,_,rfl,by show 2≤sizeLine;decide,fun b hb=>?_⟩
   refine⟨by show 2≤sizeLine;decide,fun c hc=>?_⟩
   have ha1:=(zf (o:=HO.tup [V.int lo,V.int hi']) (zc ha hb)).trans ha
   have ha2:=(zf (o:=HO.tup [V.int (jL ns hi'-jL ns lo),V.ref b]) (zc ha1 hc)).trans ha1
   refine⟨xs,ha2,zS xlen,_,_,_,rfl,zb,?_,?_⟩
   ·rw[take_succ hg]
    have hbc:b≠c:=fun e=>by subst e;rw[zb] at hc;cases hc
    refine SumsAt.snoc (b:=b) (ht.mono fun d zs e=>?_) ?_ ?_
    ·rw[zf (wQ e ha (by intro z;cases z)),zf (zc ((zf (zc e hb)).trans e) hc),zf (zc e hb)];exact e
    ·rw[zf (Ne.symm (zc ha1 hc)),zb]
    ·rw[zf (Ne.symm (zc ha hb)),zf hbc,zb];rfl
   ·exact fun d o e=>by
     have e':=(zf (o:=HO.tup [V.int lo,V.int hi']) (zc (S' d o e) hb)).trans (S' d o e)
     rw[zf (zc e hacc),zf (zc e' hc)];exact e'
  ·rintro σ H' ⟨v1,v2,xs,rfl,ha,ht,S'⟩
   rw[ht2.1,List.take_length] at ht
   exact k acc xs H' ((S1.trans S2).free hacc) ha ht (S1.trans (S2.trans S'))
end
end
section
section
variable {P:Program}{w:World}{K:PySem.W.Frag}{mg:Str→Option Value}{base:Heap}
def zfP:Sp:=fun vs H Q _=>∃(p:Addr) (ns:List Int) (tot:Int),vs=[.ref p,.int tot]∧RowAt H p ns∧∀q xs H',H q=none→H' q=some (.lst xs)→TupsAt g2 H' xs (za4 ns (fun s=>decide (s=tot)))→Same H H'→Q (.ref q) H'
abbrev vk:Stmt:=top 19
theorem pU:zl ["row","total"] ["row","total"] (zd vk):=fsc_
theorem zad {f fz:Addr}{fd fdz:FuncData}(F:Fun K "all_with" "all_with" vk f fd)(T:Txt mg)(D_summed_stretches:zC K mg "summed_stretches" zB ["row"] fz fdz)(G_summed_stretches:FnOk P w K mg base CX0 2 fz fdz ["row"] vS) :
 FnOk P w K mg base CX0 3 f fd ["row","total"] zfP:=by
 refine F.ok pU (fun vs H Q E h=>?_) (fun cdv A outer s H vs Q E hr h=>?_)
 ·obtain⟨p,ns,tot,rfl,_⟩:=h
  rfl
 ·obtain⟨p,ns,tot,rfl,⟨hp,hl⟩,k⟩:=h
  refine⟨_,(zi (zp (qc (N:=["own","stretch","total"]) (cap:=[none,none,some 1]) rfl (show zU ["row","total"] (zd vk) ["own","stretch","total"] [none,none,some 1] _=true by decide +kernel) (piL (K:=K) rfl (zo G_summed_stretches (hr.mono (by decide)) rfl D_summed_stretches.mg D_summed_stretches.fn.kp D_summed_stretches.bd .nil zv (za (pv 0) pa_nil))) (fun cl C s3 H3 fp=>⟨(pgT (K:=K) (n:=2) rfl rfl (zP (zr (i:=0) (show(["own","stretch","total"]:List Str).Nodup by decide +kernel) rfl (Or.inl rfl)) (zP (zr (i:=1) (show(["own","stretch","total"]:List Str).Nodup by decide +kernel) rfl (Or.inl rfl)) vq))),(zbN (zw wN (pv 0) (pv 2) (zx _))),fun it acc=>(zI rfl (pv 1))⟩)))),?_⟩
  refine⟨_,rfl,p,ns,rfl,⟨hp,hl⟩,fun q2 ys H2 _ hq2 ht2 S2=>⟨q2,rfl,⟨_,SqL.of hq2⟩,fun acc hacc=>?_⟩⟩
  have plen:=dj ns.length hl
  refine qG (xs:=ys) (fun i σ H'=>∃(v1 v2:Option V) (xs:List V),σ=[v1,v2,some (.int tot)]∧H' acc=some (.lst xs)∧TupsAt g2 H' xs (((prs ns.length).take i).filter (hb ns (fun s=>decide (s=tot))))∧Same H2 H') ?_ ?_ ?_ ?_
  ·exact⟨none,none,[],rfl,zb,by simpa using TupsAt.nil,Same.lay hacc⟩
  ·rintro i σ H' _ ⟨v1,v2,xs,rfl,ha,ht,S'⟩
   exact SqL.of (S' _ _ hq2)
  ·rintro i y σ H' hy ⟨v1,v2,xs,rfl,ha,ht,S'⟩
   have hi:i<(prs ns.length).length:=by rw[←ht2.1];exact(List.getElem?_eq_some_iff.mp hy).1
   obtain⟨a,b,e1,e2,e3⟩:=ht2.2 i _ (List.getElem?_eq_getElem hi)
   rw[hy] at e1
   have e1:y=.ref a:=Option.some.inj e1
   subst e1
   have hg:(prs ns.length)[i]?=some (prs ns.length)[i]:=List.getElem?_eq_getElem hi
   generalize (prs ns.length)[i]=pr at e2 e3 hg
   have xlen:xs.length≤1000000:=by
    rw[ht.1]
    exact Nat.le_trans (List.length_filter_le _ _) (by rw[List.length_take];omega)
   have yes:hb ns (fun s=>decide (s=tot)) pr=true→∀v1 v2:Option V,∃(v1' v2':Option V) (xs':List V),[v1,v2,some (.int tot)]=[v1',v2',some (.int tot)]∧upd H' acc (.lst (xs++[.ref b])) acc=some (.lst xs')∧TupsAt g2 (upd H' acc (.lst (xs++[.ref b]))) xs' (((prs ns.length).take (i+1)).filter (hb ns (fun s=>decide (s=tot))))∧Same H2 (upd H' acc (.lst (xs++[.ref b]))):=fun hh v1 v2=>by
    refine⟨v1,v2,_,rfl,zb,?_,fun c o e=>by rw[zf (zc e hacc)];exact S' c o e⟩
    rw[j8 _ hg,hh]
    exact TupsAt.snoc (ht.mono fun c zs e=>by rw[zf (wQ e ha (by intro z;cases z))];exact e) (by rw[zf (wQ (S' _ _ e3) ha (by intro z;cases z))];exact S' _ _ e3)
   have no:hb ns (fun s=>decide (s=tot)) pr=false→∀v1 v2:Option V,∃(v1' v2':Option V) (xs':List V),[v1,v2,some (.int tot)]=[v1',v2',some (.int tot)]∧H' acc=some (.lst xs')∧TupsAt g2 H' xs' (((prs ns.length).take (i+1)).filter (hb ns (fun s=>decide (s=tot))))∧Same H2 H':=fun hh v1 v2=>by
    refine⟨v1,v2,xs,rfl,ha,?_,S'⟩
    rw[j8 _ hg,hh]
    simpa using ht
   refine⟨a,_,rfl,SqT.of (S' _ _ e2),rfl,_,_,rfl,_,_,rfl,rfl,?_⟩
   refine⟨_,rfl,_,rfl,rfl,_,rfl,jB (fun e=>?_) (fun e=>?_)⟩
   ·refine⟨_,rfl,xs,ha,zS xlen,yes ?_ _ _⟩
    rw[decide_eq_true_eq] at e
    injection e with e
    exact decide_eq_true e
   ·refine no ?_ _ _
    exact decide_eq_false fun z=>e (decide_eq_true (congrArg V.int z))
  ·rintro σ H' ⟨v1,v2,xs,rfl,ha,ht,S'⟩
   rw[ht2.1,List.take_length] at ht
   exact k acc xs H' (S2.free hacc) ha ht (S2.trans S')
end
end
section
theorem gm {bt:Nat→Nat→Bool}:∀n,0<n→(∀i,i<n→bt i 0=false)→pick bt n=some 0
 |0,h,_=>absurd h (Nat.lt_irrefl _)
 |1,_,_=>rfl
 |n+2,_,hb=>by
  have ih:=gm (n+1) (Nat.succ_pos _) fun i hi=>hb i (by omega)
  show(match pick bt (n+1) with|none=>some (n+1)|some j=>if bt (n+1) j then some (n+1) else some j)=some 0
  rw[ih]
  simp only[hb (n+1) (by omega),Bool.false_eq_true,if_false]
def pLt (a b:Nat×Nat):Prop:=a.1<b.1∨a.1=b.1∧a.2<b.2
theorem wU (lo:Nat):∀j,(jC lo j).Pairwise pLt
 |0=>by unfold jC;simp
 |j+1=>by
  rw[gL,List.pairwise_append]
  refine⟨wU lo j,by simp,fun a ha b hb=>?_⟩
  unfold jC at ha
  obtain⟨t,ht,rfl⟩:=List.mem_map.mp ha
  have hb:b=(lo,lo+1+j):=by simpa using hb
  subst hb
  have:=List.mem_range.mp ht
  exact .inr ⟨rfl,by show lo+1+t<lo+1+j;omega⟩
theorem wL (n:Nat):∀i,(vG n i).Pairwise pLt∧∀p∈vG n i,p.1<i
 |0=>by unfold vG;simp
 |i+1=>by
  obtain⟨h1,h2⟩:=wL n i
  have h3:∀p∈jC i (n-i),p.1=i:=fun p hp=>by
   unfold jC at hp
   obtain⟨t,_,rfl⟩:=List.mem_map.mp hp
   rfl
  rw[wa]
  refine⟨List.pairwise_append.mpr ⟨h1,wU _ _,fun a ha b hb=>.inl (by rw[h3 b hb];exact h2 a ha)⟩,fun p hp=>?_⟩
  rcases List.mem_append.mp hp with h|h
  ·have:=h2 p h;omega
  ·rw[h3 p h];exact Nat.lt_succ_self _
theorem fD (ns:List Int)(t:Int→Bool):(za4 ns t).Pairwise pLt:=(wL _ _).1.filter _
def pI (p:Nat×Nat):List Int:=[(p.1:Int),(p.2:Int)]
theorem zhF (p:Nat×Nat):g2 p=(pI p).map V.int:=rfl
theorem zgx (p q:Nat×Nat)(h:p=q∨pLt p q):HT.lexLt (pI q) (pI p)=false:=by
 obtain⟨p1,p2⟩:=p
 obtain⟨q1,q2⟩:=q
 have h':(p1=q1∧p2=q2)∨p1<q1∨(p1=q1∧p2<q2):=by
  rcases h with h|h|h
  ·cases h;exact .inl ⟨rfl,rfl⟩
  ·exact .inr (.inl h)
  ·exact .inr (.inr h)
 show HT.lexLt [(q1:Int),(q2:Int)] [(p1:Int),(p2:Int)]=false
 rw[HT.lexLt_cons,HT.lexLt_cons,HT.lexLt_nil_nil]
 by_cases e1:(q1:Int)=(p1:Int)
 ·rw[if_pos e1]
  by_cases e2:(q2:Int)=(p2:Int)
  ·rw[if_pos e2]
  ·rw[if_neg e2];exact decide_eq_false (by omega)
 ·rw[if_neg e1];exact decide_eq_false (by omega)
def firstOf (ps:List (Nat×Nat)):Option (Nat×Nat):=ps[0]?
def jM (ps:List (Nat×Nat))(i:Nat):Int:=(((ps.getD i (0,0)).2:Nat):Int)-(((ps.getD i (0,0)).1:Nat):Int)
def vt (ps:List (Nat×Nat)):Option (Nat×Nat):=(pick (fun i k=>if false then decide (jM ps i<jM ps k) else decide (jM ps k<jM ps i)) ps.length).bind fun j=>ps[j]?
def jl (ps:List (Nat×Nat)):Option (Nat×Nat):=(pick (fun i k=>if true then decide (jM ps i<jM ps k) else decide (jM ps k<jM ps i)) ps.length).bind fun j=>ps[j]?
def OptAt (H:Hp)(v:V)(o:Option (Nat×Nat)):Prop:=match o with
 |none=>v=.non
 |some p=>∃a,v=.ref a∧H a=some (.tup (g2 p))
theorem OptAt.mono {H H':Hp}{v:V}{o:Option (Nat×Nat)}(h:OptAt H v o)(s:Same H H'):OptAt H' v o:=by
 cases o with
 |none=>exact h
 |some p=>obtain⟨a,e1,e2⟩:=h;exact⟨a,e1,s _ _ e2⟩
theorem TupsAt.opt {H:Hp}{xs:List V}{ps:List (Nat×Nat)}(h:TupsAt g2 H xs ps){j:Nat}{x:V}(hx:xs[j]?=some x):OptAt H x ps[j]?:=by
 have hj:j<ps.length:=by rw[←h.1];exact(List.getElem?_eq_some_iff.mp hx).1
 obtain⟨a,e1,e2⟩:=h.2 j _ (List.getElem?_eq_getElem hj)
 rw[hx] at e1;cases e1
 rw[List.getElem?_eq_getElem hj]
 exact⟨a,rfl,e2⟩
def zdu:Sp:=fun vs H Q _=>∃(a:Addr) (p:Nat×Nat),vs=[.ref a]∧H a=some (.tup (g2 p))∧Q (.int ((p.2:Int)-(p.1:Int))) H
def yi (o:List (Nat×Nat)→Option (Nat×Nat)):Sp:=fun vs H Q _=>∃(l:Addr) (xs:List V) (ps:List (Nat×Nat)),vs=[.ref l]∧H l=some (.lst xs)∧TupsAt g2 H xs ps∧ps.Pairwise pLt∧∀v H',OptAt H' v (o ps)→Same H H'→Q v H'
section
variable {P:Program}{w:World}{K:PySem.W.Frag}{mg:Str→Option Value}{base:Heap}
abbrev jR:Stmt:=top 14
theorem sc_length_of:zl ["stretch","low","high"] ["stretch"] (zd jR):=fsc_
theorem wO {f:Addr}{fd:FuncData}(F:Fun K "length_of" "length_of" jR f fd)(T:Txt mg):FnOk P w K mg base CX0 1 f fd ["stretch"] zdu:=by
 refine F.ok sc_length_of (fun vs H Q E h=>?_) (fun cdv A outer s H vs Q E hr h=>?_)
 ·obtain⟨a,p,rfl,_⟩:=h
  rfl
 ·obtain⟨a,p,rfl,ha,k⟩:=h
  refine⟨_,(ze (di (pv 0) (pgT (K:=K) (n:=2) rfl rfl (zP (zr (i:=1) sc_length_of.nd rfl (Or.inl rfl)) (zP (zr (i:=2) sc_length_of.nd rfl (Or.inl rfl)) vq))))
   (zi (zp (zk du (pv 2) (pv 1))))),?_⟩
  refine⟨_,rfl,a,_,rfl,SqT.of ha,rfl,_,_,rfl,_,_,rfl,rfl,?_⟩
  exact⟨_,rfl,_,rfl,_,_,rfl,rfl,k⟩
abbrev x8:Stmt:=top 15
theorem pT:zl ["stretches"] ["stretches"] (zd x8):=fsc_
theorem zac {f:Addr}{fd:FuncData}(F:Fun K "first_of" "first_of" x8 f fd)(T:Txt mg):FnOk P w K mg base CX0 2 f fd ["stretches"] (yi firstOf):=by
 refine F.ok pT (fun vs H Q E h=>?_) (fun cdv A outer s H vs Q E hr h=>?_)
 ·obtain⟨l,xs,ps,rfl,_⟩:=h
  rfl
 ·obtain⟨l,xs,ps,rfl,hq,ht,hs,k⟩:=h
  have hu1:=(Room.in1 (k:=0) hr).units0
  refine⟨_,(zi (zp (yn (zhN (K:=K) rfl rfl hu1) (by rfl) T.b_min PyProof.Rows.Boot.«min» (za (pv 0) pa_nil) (vp wc dk)))),?_⟩
  refine⟨_,rfl,l,xs,fun i=>pI (ps.getD i (0,0)),rfl,rfl,SqL.of hq,fun i x hx=>?_,fun H2 S2=>?_⟩
  ·have hi:i<ps.length:=by rw[←ht.1];exact(List.getElem?_eq_some_iff.mp hx).1
   obtain⟨a,e1,e2⟩:=ht.2 i _ (List.getElem?_eq_getElem hi)
   rw[hx] at e1;cases e1
   refine⟨a,rfl,?_⟩
   rw[e2,zhF]
   simp[List.getD,List.getElem?_eq_getElem hi]
  ·by_cases h0:0<xs.length
   ·rw[gm xs.length h0 ?_]
    ·intro x hx
     exact k x H2 ((ht.mono (gb S2)).opt hx) S2
    ·intro i hi
     refine zgx _ _ ?_
     rw[ht.1] at hi h0
     simp only[List.getD,List.getElem?_eq_getElem hi,List.getElem?_eq_getElem h0,Option.getD_some]
     by_cases hi0:i=0
     ·subst hi0;exact .inl rfl
     ·exact .inr (List.pairwise_iff_getElem.mp hs 0 i h0 hi (by omega))
   ·have e:xs.length=0:=by omega
    have e2:ps=[]:=List.length_eq_zero_iff.mp (by rw[←ht.1];exact e)
    rw[e]
    exact k .non H2 (by rw[e2];rfl) S2
abbrev vh:Stmt:=top 16
theorem fA:zl ["stretches"] ["stretches"] (zd vh):=fsc_
theorem fC {f fl:Addr}{fd fdl:FuncData}(F:Fun K "longest_of" "longest_of" vh f fd)(T:Txt mg)(D_length_of:zC K mg "length_of" jR ["stretch"] fl fdl):FnOk P w K mg base CX0 3 f fd ["stretches"] (yi vt):=by
 have G_length_of:FnOk P w K mg base CX0 1 fl fdl ["stretch"] zdu:=wO D_length_of.fn T
 refine F.ok fA (fun vs H Q E h=>?_) (fun cdv A outer s H vs Q E hr h=>?_)
 ·obtain⟨l,xs,ps,rfl,_⟩:=h
  rfl
 ·obtain⟨l,xs,ps,rfl,hq,ht,hs,k⟩:=h
  have hr1:=Room.in1 (k:=1) hr
  refine⟨_,(zi (zp (yn (zhM false (K:=K) G_length_of hr1 D_length_of.bd rfl rfl) (by rfl) T.b_max PyProof.Rows.Boot.«max» (za (pv 0) pa_nil) (vp (zK (v:=.ref _) (by rfl) D_length_of.mg rfl) (vp wc dk))))),?_⟩
  refine⟨_,rfl,l,xs,jM ps,rfl,rfl,SqL.of hq,fun i x H' Qk hx S' hQ=>?_,fun H2 S2=>?_⟩
  ·have hi:i<ps.length:=by rw[←ht.1];exact(List.getElem?_eq_some_iff.mp hx).1
   obtain⟨a,e1,e2⟩:=ht.2 i _ (List.getElem?_eq_getElem hi)
   rw[hx] at e1;cases e1
   refine⟨a,_,rfl,S' _ _ e2,?_⟩
   have e:jM ps i=((ps[i]).2:Int)-((ps[i]).1:Int):=by unfold jM;simp[List.getD,List.getElem?_eq_getElem hi]
   rw[←e]
   exact hQ H' (Same.refl _)
  ·rw[ht.1]
   cases e:pick (fun i k=>if false then decide (jM ps i<jM ps k) else decide (jM ps k<jM ps i)) ps.length with
   |none=>exact k .non H2 (by unfold vt;rw[e];rfl) S2
   |some j=>
    intro x hx
    refine k x H2 ?_ S2
    unfold vt
    rw[e]
    exact(ht.mono (gb S2)).opt hx
abbrev jW:Stmt:=top 17
theorem k6:zl ["stretches"] ["stretches"] (zd jW):=fsc_
theorem gy {f fl:Addr}{fd fdl:FuncData}(F:Fun K "shortest_of" "shortest_of" jW f fd)(T:Txt mg)(D_length_of:zC K mg "length_of" jR ["stretch"] fl fdl):FnOk P w K mg base CX0 3 f fd ["stretches"] (yi jl):=by
 have G_length_of:FnOk P w K mg base CX0 1 fl fdl ["stretch"] zdu:=wO D_length_of.fn T
 refine F.ok k6 (fun vs H Q E h=>?_) (fun cdv A outer s H vs Q E hr h=>?_)
 ·obtain⟨l,xs,ps,rfl,_⟩:=h
  rfl
 ·obtain⟨l,xs,ps,rfl,hq,ht,hs,k⟩:=h
  have hr1:=Room.in1 (k:=1) hr
  refine⟨_,(zi (zp (yn (zhM true (K:=K) G_length_of hr1 D_length_of.bd rfl rfl) (by rfl) T.b_min PyProof.Rows.Boot.«min» (za (pv 0) pa_nil) (vp (zK (v:=.ref _) (by rfl) D_length_of.mg rfl) (vp wc dk))))),?_⟩
  refine⟨_,rfl,l,xs,jM ps,rfl,rfl,SqL.of hq,fun i x H' Qk hx S' hQ=>?_,fun H2 S2=>?_⟩
  ·have hi:i<ps.length:=by rw[←ht.1];exact(List.getElem?_eq_some_iff.mp hx).1
   obtain⟨a,e1,e2⟩:=ht.2 i _ (List.getElem?_eq_getElem hi)
   rw[hx] at e1;cases e1
   refine⟨a,_,rfl,S' _ _ e2,?_⟩
   have e:jM ps i=((ps[i]).2:Int)-((ps[i]).1:Int):=by unfold jM;simp[List.getD,List.getElem?_eq_getElem hi]
   rw[←e]
   exact hQ H' (Same.refl _)
  ·rw[ht.1]
   cases e:pick (fun i k=>if true then decide (jM ps i<jM ps k) else decide (jM ps k<jM ps i)) ps.length with
   |none=>exact k .non H2 (by unfold jl;rw[e];rfl) S2
   |some j=>
    intro x hx
    refine k x H2 ?_ S2
    unfold jl
    rw[e]
    exact(ht.mono (gb S2)).opt hx
end
end
end My
namespace L2
open PySem PySem.Spec PyProof.Rows
section
structure XNm (K:PySem.W.Frag)(mg:Str→Option Value)(x:Str)(C:Addr):Prop where
 mg:mg x=some (.ref C)
structure XSp (K:PySem.W.Frag)(mg:Str→Option Value)(x:Str)(C:Addr):Prop where
 mg:mg x=some (.ref C)
 sup:zgL K C
structure XRz (K:PySem.W.Frag)(mg:Str→Option Value)(x:Str)(C:Addr):Prop where
 mg:mg x=some (.ref C)
 ex:PySem.W.excIn K C bmV "ValueError.__new__"=true
 cl:wt K C
end
end L2
namespace My
open PySem L2
section
def c_FIGURES:Str:="0123456789"
def Sml (ns:List Int):Prop:=∀n∈ns,n.natAbs<10^15
def zbF:Sp:=fun vs H Q _=>∃z:Str,vs=[.str z]∧z.length≤100000∧∀H',Same H H'→Q (.bl (qD z.cps.toList)) H'
theorem zgG (c:Nat):(!(Builtin.Str.occurrences c_FIGURES ⟨#[c]⟩ 0 c_FIGURES.length 1).isEmpty)=decide (48≤c∧c≤57):=by
 rw[StrLaws.found_one]
 have e:c_FIGURES.cps.toList=[48,49,50,51,52,53,54,55,56,57]:=by decide
 rw[e]
 apply decide_eq_decide.mpr
 simp only[List.mem_cons,List.not_mem_nil,or_false]
 omega
def okC (c:Nat):Bool:=decide (48≤c∧c≤57)
theorem zH {α β:Type}(f:α→β){l:List α}{i:Nat}{x:α}(h:l[i]?=some x):(l.take (i+1)).map f=(l.take i).map f++[f x]:=by
 rw[List.take_add_one,h,List.map_append];rfl
theorem qw {x y:Str}(h:x.cps.toList=y.cps.toList):x=y:=by
 obtain⟨⟨x⟩⟩:=x
 obtain⟨⟨y⟩⟩:=y
 have h':x=y:=h
 rw[h']
section
variable {P:Program}{w:World}{K:PySem.W.Frag}{mg:Str→Option Value}{base:Heap}
abbrev jS:Stmt:=top 9
theorem sc_is_number:zl ["word","figures"] ["word"] (zd jS):=fsc_
theorem zbK (z:Str):(Txt.removeprefix z ⟨#[45]⟩).length≤z.length:=by
 have e:∀y:Str,y.length=y.cps.toList.length:=fun y=>by simp[Str.length]
 rw[e,e,gh]
 unfold xF
 split
 ·rename_i r h;rw[h];simp
 ·exact Nat.le_refl _
theorem zah:("-":Str)=⟨#[45]⟩:=by decide
theorem dD {f:Addr}{fd:FuncData}{tF:Tok}(F:Fun K "is_number" "is_number" jS f fd)(T:Txt mg)(C_FIGURES:mg "FIGURES"=some (.str c_FIGURES tF)):FnOk P w K mg base CX0 1 f fd ["word"] zbF:=by
 refine F.ok sc_is_number (fun vs H Q E h=>?_) (fun cdv A outer s H vs Q E hr h=>?_)
 ·obtain⟨z,rfl,_⟩:=h
  rfl
 ·obtain⟨z,rfl,hl,k⟩:=h
  have hsl:=sizeLine_eq
  have hfl:=zbK z
  have hfg:=gh z
  refine⟨_,(ze (zm (i:=1) sc_is_number.nd rfl (Or.inl rfl) (gq PySem.F.plainAttrs_str PySem.F.slot_str_removeprefix PySem.F.type_str_removeprefix vH (pv 0) (za zj pa_nil)))
   (ze (z4 (zw wN (pv 1) zj (zx _))
     (zi (zp yF))
     zD)
   (ze (z4 (vW (gi (zt (zas rfl) (by rfl) T.b_all PyProof.Rows.Boot.«all» (za (qc (N:=["sign"]) (cap:=[none]) rfl (show zU ["word","figures"] (zd jS) ["sign"] [none] _=true by decide +kernel) (zdK (pv 1)) (fun cl C s3 H3 fp=>⟨(zr (i:=0) (show(["sign"]:List Str).Nodup by decide +kernel) rfl (Or.inl rfl)),zO,fun it acc=>(zI rfl (xv bp (pv 0) (zK (v:=.str c_FIGURES) (by rfl) C_FIGURES ⟨_,rfl⟩) (by with_unfolding_all rfl)))⟩)) pa_nil))))
     (zi (zp yF))
     zD)
   (zi (zp (zhr (xv wN (pv 0) zj (zx _)) (zaU (xv yG (zJ zek (pv 1) zg (fun _ _=>rfl)) zj (zx _))))))))),?_⟩
  refine⟨_,rfl,rfl,z,("-":Str),rfl,rfl,by omega,?_⟩
  rw[zah]
  generalize Txt.removeprefix z ⟨#[45]⟩=fg at hfl hfg
  dsimp only[zq]
  have hem:∀b:Bool,(decide (V.str fg=V.str ("":Str)))=b→b=fg.cps.toList.isEmpty:=by
   rintro b rfl
   rw[Bool.eq_iff_iff,decide_eq_true_iff,List.isEmpty_iff]
   constructor
   ·intro h
    injection h with h
    rw[h];rfl
   ·intro h
    rw[show fg=("":Str) from qw (by rw[h];rfl)]
  refine⟨_,rfl,rfl,_,rfl,jB (fun e=>?_) (fun e=>?_)⟩
  ·have e':=hem _ rfl
   rw[e] at e'
   have:qD z.cps.toList=false:=by unfold qD;rw[←hfg,←e'];rfl
   exact this▸k H (Same.refl H)
  ·have e':=hem _ rfl
   have e0:fg.cps.toList.isEmpty=false:=by rw[←e'];exact Bool.not_eq_true _ |>.mp e
   refine⟨_,rfl,fg,rfl,fun acc hacc=>?_⟩
   refine pA (fun i σ H'=>∃v:Option V,σ=[v]∧H' acc=some (.lst (((fg.cps.toList.take i).map okC).map V.bl))∧Same H H') ⟨none,rfl,zb,Same.lay hacc⟩ ?_ ?_
   ·rintro i c σ H1 hc ⟨v,rfl,ha,S1⟩
    have hc':fg.cps.toList[i]?=some c:=by simpa using hc
    have hi:i<fg.cps.toList.length:=(List.getElem?_eq_some_iff.mp hc').1
    have hfl2:fg.cps.toList.length=fg.length:=by simp[Str.length]
    refine⟨_,rfl,⟨#[c]⟩,c_FIGURES,rfl,rfl,_,ha,zS (by rw[List.length_map,List.length_map,List.length_take];omega),?_⟩
    refine⟨_,rfl,?_,fun b o e=>by rw[zf (zc e hacc)];exact S1 _ _ e⟩
    rw[zb,zH okC hc',List.map_append,zgG]
    rfl
   ·rintro σ H1 ⟨v,rfl,ha,S1⟩
    rw[show fg.cps.size=fg.cps.toList.length by simp,List.take_length] at ha
    have hall:(fg.cps.toList.map okC).all id=fg.cps.toList.all okC:=by rw[List.all_map];rfl
    refine⟨acc,_,rfl,ha,_,rfl,?_⟩
    rw[hall]
    refine jB (fun e2=>?_) (fun e2=>?_)
    ·have:qD z.cps.toList=false:=by
      unfold qD
      rw[←hfg,e0]
      have e3:fg.cps.toList.all (fun c=>decide (48≤c∧c≤57))=false:=(Bool.not_eq_true' _).mp e2
      rw[e3];rfl
     exact this▸k H1 S1
    ·have e3:fg.cps.toList.all (fun c=>decide (48≤c∧c≤57))=true:=by
      cases hq:fg.cps.toList.all okC with
      |false=>rw[hq] at e2;exact absurd rfl e2
      |true=>exact hq
     have hz:decide (V.str z=V.str ("0":Str))=(z.cps.toList==[48]):=by
      rw[Bool.eq_iff_iff,decide_eq_true_iff,beq_iff_eq]
      constructor
      ·intro h
       injection h with h
       rw[h];rfl
      ·intro h
       rw[show z=("0":Str) from qw (by rw[h];rfl)]
     cases hcs:fg.cps.toList with
     |nil=>rw[hcs] at e0;cases e0
     |cons c r=>
      have hres:qD z.cps.toList=(z.cps.toList==[48]||!decide (c=48)):=by
       unfold qD
       rw[←hfg,e3,e0,hcs,Bool.not_false,Bool.true_and,Bool.true_and]
       rfl
      refine⟨_,rfl,rfl,_,rfl,?_⟩
      rw[hz]
      refine jB (fun e4=>?_) (fun e4=>?_)
      ·have:qD z.cps.toList=true:=by rw[hres,e4];rfl
       exact this▸k H1 S1
      ·have e5:(z.cps.toList==[48])=false:=Bool.not_eq_true _ |>.mp e4
       refine⟨_,rfl,fg,0,c,rfl,rfl,by omega,by rw[hcs];exact qP (j:=0) (by rfl),rfl,?_⟩
       have hc0:decide (V.str ⟨#[c]⟩=V.str ("0":Str))=decide (c=48):=by
        apply decide_eq_decide.mpr
        constructor
        ·intro h
         injection h with h
         have h2:(⟨#[c]⟩:Str).cps.toList=("0":Str).cps.toList:=by rw[h]
         have h3:[c]=[48]:=h2
         injection h3
        ·intro h
         subst h
         rfl
       rw[hc0]
       have:qD z.cps.toList = !decide (c=48):=by rw[hres,e5];rfl
       exact this▸k H1 S1
end
end
section
def zby:Sp:=fun vs H Q _=>∃(p:Addr) (ns:List Int),vs=[.ref p]∧H p=some (.tup (ns.map V.int))∧ns.length≤1000∧Sml ns∧∀H',Same H H'→Q (.str (shown ns)) H'
theorem zE (z:Str):z.length=z.cps.toList.length:=by simp[Str.length]
def isN (z:Str):Bool:=qD z.cps.toList
def numOf (z:Str):Int:=(PySem.intText? z).getD 0
theorem zcP {z:Str}(h:isN z=true)(hl:z.length≤4300):PySem.intText? z=some (numOf z):=by
 have e:∀{n:Int},PySem.intText? z=some n→PySem.intText? z=some (numOf z):=fun q=>by unfold numOf;rw[q];rfl
 unfold isN qD at h
 rw[Bool.and_eq_true,Bool.and_eq_true] at h
 obtain⟨⟨h1,h2⟩,_⟩:=h
 have h2':PySem.NumText.AllDigits (xF z.cps.toList):=fun c hc=>of_decide_eq_true (List.all_eq_true.mp h2 c hc)
 have h1':xF z.cps.toList≠[]:=fun q=>by rw[q] at h1;simp at h1
 cases hz:z.cps.toList with
 |nil=>rw[hz] at h1';exact absurd rfl h1'
 |cons c r=>
  by_cases hc:c=45
  ·subst hc
   rw[hz] at h1' h2'
   exact e (PySem.intText_neg hz h2' h1' hl)
  ·have ef:xF (c::r)=c::r:=by
    unfold xF
    split
    ·rename_i r' q;injection q with q1 _;exact absurd q1 hc
    ·rfl
   rw[hz,ef] at h1' h2'
   exact e (PySem.intText_digits (by rw[hz];exact h2') (by rw[hz];exact h1') hl)
section
variable {P:Program}{w:World}{K:PySem.W.Frag}{mg:Str→Option Value}{base:Heap}
abbrev jP:Stmt:=top 10
theorem da:zl ["row"] ["row"] (zd jP):=fsc_
theorem dz {f:Addr}{fd:FuncData}(F:Fun K "row_shown" "row_shown" jP f fd)(T:Txt mg):FnOk P w K mg base CX0 1 f fd ["row"] zby:=by
 refine F.ok da (fun vs H Q E h=>?_) (fun cdv A outer s H vs Q E hr h=>?_)
 ·obtain⟨p,ns,rfl,_⟩:=h
  rfl
 ·obtain⟨p,ns,rfl,hp,hl,hb,k⟩:=h
  refine⟨_,(zi (zp (gq PySem.F.plainAttrs_str PySem.F.slot_str_join PySem.F.type_str_join zbX zj (za (qc (N:=["number"]) (cap:=[none]) rfl (show zU ["row"] (zd jP) ["number"] [none] _=true by decide +kernel) (piT (K:=K) rfl (pv 0)) (fun cl C s3 H3 fp=>⟨(zr (i:=0) (show(["number"]:List Str).Nodup by decide +kernel) rfl (Or.inl rfl)),zO,fun it acc=>(zI rfl (jo yd (by rfl) T.b_str PyProof.Rows.Boot.«str» (za (pv 0) pa_nil)))⟩)) pa_nil)))),?_⟩
  refine⟨rfl,_,rfl,p,rfl,⟨_,SqT.of hp⟩,fun acc hacc=>?_⟩
  refine pz (xs:=ns.map V.int) (fun i σ H'=>∃v:Option V,σ=[v]∧H' acc=some (.lst (((ns.take i).map qT).map V.str))∧Same H H') ⟨none,rfl,zb,Same.lay hacc⟩ ?_ ?_ ?_
  ·rintro i σ H1 hi ⟨v,rfl,ha,S1⟩
   exact SqT.of (S1 _ _ hp)
  ·rintro i x σ H1 hx ⟨v,rfl,ha,S1⟩
   obtain⟨n,hn,rfl⟩:∃n,ns[i]?=some n∧V.int n=x:=by rw[List.getElem?_map] at hx;exact Option.map_eq_some_iff.mp hx
   have hnb:=hb n (List.mem_of_getElem? hn)
   have hi:i<ns.length:=(List.getElem?_eq_some_iff.mp hn).1
   have hlog:n.natAbs.log2<1920:=by
    by_cases h0:n.natAbs=0
    ·rw[h0];decide
    ·exact Nat.lt_trans ((Nat.log2_lt h0).mpr (Nat.lt_trans hnb (show 10^15<2^64 by decide))) (by decide)
   refine⟨_,rfl,n,rfl,hlog,_,ha,zS (by rw[List.length_map,List.length_map,List.length_take];omega),?_⟩
   refine⟨_,rfl,?_,fun b o e=>by rw[zf (zc e hacc)];exact S1 _ _ e⟩
   rw[zb,zH qT hn,List.map_append]
   rfl
  ·rintro σ H1 ⟨v,rfl,ha,S1⟩
   rw[List.length_map,List.take_length] at ha
   refine⟨blank,acc,ns.map qT,rfl,rfl,ha,?_,?_⟩
   ·have h1:=zeQ hb
    have h3:blank.length=1:=rfl
    rw[h3,List.length_map]
    have:=sizeLine_eq
    omega
   ·exact k H1 S1
def c_LETTERS:Str:="abcdefghijklmnopqrstuvwxyz"
def z8:Int:=8
def qj:Int:=60
def qO:Int:=12
def qo:Int:=14
def dI (c:Nat):Bool:=decide (97≤c∧c≤122)
def isNm (z:Str):Bool:=decide (1≤z.length∧z.length≤8)&&z.cps.toList.all dI
def zdt:Sp:=fun vs H Q _=>∃z:Str,vs=[.str z]∧z.length≤100000∧∀H',Same H H'→Q (.bl (isNm z)) H'
theorem zgz (c:Nat):(!(Builtin.Str.occurrences c_LETTERS ⟨#[c]⟩ 0 c_LETTERS.length 1).isEmpty)=dI c:=by
 rw[StrLaws.found_one]
 have e:c_LETTERS.cps.toList=(List.range 26).map (97 + ·):=by decide
 rw[e]
 unfold dI
 apply decide_eq_decide.mpr
 rw[List.mem_map]
 constructor
 ·rintro⟨i,hi,rfl⟩
  have:=List.mem_range.mp hi
  omega
 ·intro h
  exact⟨c-97,List.mem_range.mpr (by omega),by omega⟩
abbrev xt:Stmt:=top 44
theorem zaQ:zl ["word"] ["word"] (zd xt):=fsc_
theorem zaY {f:Addr}{fd:FuncData}{tL tN:Tok}(F:Fun K "is_name" "is_name" xt f fd)(T:Txt mg)(C_LETTERS:mg "LETTERS"=some (.str c_LETTERS tL))(C_NAME_LETTERS:mg "NAME_LETTERS"=some (.int z8 tN)):FnOk P w K mg base CX0 1 f fd ["word"] zdt:=by
 refine F.ok zaQ (fun vs H Q E h=>?_) (fun cdv A outer s H vs Q E hr h=>?_)
 ·obtain⟨z,rfl,_⟩:=h
  rfl
 ·obtain⟨z,rfl,hl,k⟩:=h
  have hsl:=sizeLine_eq
  refine⟨_,(zi (zp (zdU (zdS gw gw zg (zt jm (by rfl) T.b_len PyProof.Rows.Boot.«len» (za (pv 0) pa_nil)) (zK (v:=.int z8) (by rfl) C_NAME_LETTERS ⟨_,rfl⟩)) (zaU (zt (zas rfl) (by rfl) T.b_all PyProof.Rows.Boot.«all» (za (qc (N:=["sign"]) (cap:=[none]) rfl (show zU ["word"] (zd xt) ["sign"] [none] _=true by decide +kernel) (zdK (pv 0)) (fun cl C s3 H3 fp=>⟨(zr (i:=0) (show(["sign"]:List Str).Nodup by decide +kernel) rfl (Or.inl rfl)),zO,fun it acc=>(zI rfl (xv bp (pv 0) (zK (v:=.str c_LETTERS) (by rfl) C_LETTERS ⟨_,rfl⟩) (by with_unfolding_all rfl)))⟩)) pa_nil)))))),?_⟩
  have hz:z.length=z.cps.toList.length:=zE z
  refine⟨_,rfl,z,rfl,by omega,_,_,rfl,rfl,_,rfl,jB (fun e1=>⟨_,_,rfl,rfl,_,rfl,jB (fun e2=>?_) (fun e2=>?_)⟩) (fun e1=>⟨_,rfl,xE ?_⟩)⟩
  ·refine⟨_,rfl,z,rfl,fun acc hacc=>?_⟩
   refine pA (fun i σ H'=>∃v:Option V,σ=[v]∧H' acc=some (.lst (((z.cps.toList.take i).map dI).map V.bl))∧Same H H') ⟨none,rfl,zb,Same.lay hacc⟩ ?_ ?_
   ·rintro i c σ H1 hc ⟨v,rfl,ha,S1⟩
    have hc':z.cps.toList[i]?=some c:=by simpa using hc
    have hi:i<z.cps.toList.length:=(List.getElem?_eq_some_iff.mp hc').1
    refine⟨_,rfl,⟨#[c]⟩,c_LETTERS,rfl,rfl,_,ha,zS (by rw[List.length_map,List.length_map,List.length_take];omega),?_⟩
    refine⟨_,rfl,?_,fun b o e=>by rw[zf (zc e hacc)];exact S1 _ _ e⟩
    rw[zb,zH dI hc',List.map_append,zgz]
    rfl
   ·rintro σ H1 ⟨v,rfl,ha,S1⟩
    rw[show z.cps.size=z.cps.toList.length by simp,List.take_length] at ha
    refine⟨acc,_,rfl,ha,?_⟩
    have hall:(z.cps.toList.map dI).all id=isNm z:=by
     rw[List.all_map]
     unfold isNm
     have d1:=of_decide_eq_true e1
     have d2:=of_decide_eq_true e2
     unfold z8 at d2
     rw[decide_eq_true (show 1≤z.length∧z.length≤8 by omega)]
     rfl
    rw[hall]
    exact k H1 S1
  ·have:isNm z=false:=by
    unfold isNm
    have d2:¬(z.length:Int)≤z8:=fun q=>e2 (decide_eq_true q)
    unfold z8 at d2
    rw[decide_eq_false (by omega)];rfl
   exact this▸k H (Same.refl H)
  ·have:isNm z=false:=by
    unfold isNm
    have d2:¬(1:Int)≤z.length:=fun q=>e1 (decide_eq_true q)
    rw[decide_eq_false (by omega)];rfl
   exact this▸k H (Same.refl H)
end
end
section
section
variable {P:Program}{w:World}{K:PySem.W.Frag}{mg:Str→Option Value}{base:Heap}
def zW (z:Str)(fg:Int):Bool:=isN z&&decide (((xF z.cps.toList).length:Int)≤fg)
def zeS (R:Addr):Sp:=fun vs H Q E=>∃(z:Str) (fg:Int),vs=[.str z,.int fg]∧z.length≤20000∧fg≤14∧((zW z fg=true∧∀H',Same H H'→Q (.int (numOf z)) H')∨(zW z fg=false∧∀H',Same H H'→E (.ref R) none H'))
abbrev qh:Stmt:=top 45
theorem k7:zl ["word","figures"] ["word","figures"] (zd qh):=fsc_
theorem zeq (l:List Nat):l.length≤(xF l).length+1:=by
 unfold xF
 split<;>simp
theorem yY {f fn R:Addr}{fd fdn:FuncData}(F:Fun K "number_read" "number_read" qh f fd)(T:Txt mg)(D_is_number:zC K mg "is_number" jS ["word"] fn fdn)(G_is_number:FnOk P w K mg base CX0 1 fn fdn ["word"] zbF)(X_NoAsk:XRz K mg "NoAsk" R):FnOk P w K mg base (CXx P w) 2 f fd ["word","figures"] (zeS R):=by
 refine F.okX k7 (fun vs H Q E h=>?_) (fun cdv A outer s H vs Q E hr h=>?_)
 ·obtain⟨z,fg,rfl,_⟩:=h
  rfl
 ·obtain⟨z,fg,rfl,hl,hf,k⟩:=h
  have hsl:=sizeLine_eq
  refine⟨_,(ze (z4 (PW.pt (ba (vW (gi (zo G_is_number (hr.mono (by decide)) rfl D_is_number.mg D_is_number.fn.kp D_is_number.bd .nil zv (za (pv 0) pa_nil)))) (yl (zw zfU (zt jm (by rfl) T.b_len PyProof.Rows.Boot.«len» (za (gq PySem.F.plainAttrs_str PySem.F.slot_str_removeprefix PySem.F.type_str_removeprefix vH (pv 0) (za zj pa_nil)) pa_nil)) (pv 1) (zx _)))))
   (zi (qi zM rfl rfl X_NoAsk.mg X_NoAsk.ex (za zj pa_nil) jY))
   zD)
   (zi (zp (jo fH (by rfl) T.b_int PyProof.Rows.Boot.«int» (za (pv 0) pa_nil))))),?_⟩
  have bad:zW z fg=false→∀H1,Same H H1→∀(D:Ends) (σ:St),x4 R E (j5 (tC (.str "a word of the line is no number, or has too many figures")) yh) D σ H1:=fun e H1 S1 D σ=>by
   rcases k with⟨k1,_⟩|⟨_,k⟩
   ·rw[e] at k1;cases k1
   ·exact⟨by show 1≤sizeLine;omega,k H1 S1⟩
  have hfl:=zbK z
  have hfg:=gh z
  refine⟨_,rfl,z,rfl,by omega,fun H1 S1=>⟨_,rfl,jB (fun e1=>jN (bad ?_ _ S1 _ _)) (fun e1=>⟨_,rfl,rfl,z,("-":Str),rfl,rfl,by omega,?_⟩)⟩⟩
  ·have e1':qD z.cps.toList=false:=by cases h:qD z.cps.toList with|true=>rw[h] at e1;cases e1|false=>rfl
   unfold zW isN
   rw[e1'];rfl
  rw[zah]
  generalize Txt.removeprefix z ⟨#[45]⟩=fgz at hfl hfg
  have hn:isN z=true:=by cases h:qD z.cps.toList with|true=>exact h|false=>rw[h] at e1;exact absurd rfl e1
  have hlen:fgz.length=(xF z.cps.toList).length:=by rw[zE,hfg]
  refine⟨_,rfl,by omega,_,rfl,_,_,rfl,rfl,_,rfl,jB (fun e2=>bad ?_ _ S1 _ _) (fun e2=>?_)⟩
  ·have d2:=of_decide_eq_true e2
   unfold zW
   rw[decide_eq_false (by omega),Bool.and_false]
  ·have d2:¬(fg<(fgz.length:Int)):=fun q=>e2 (decide_eq_true q)
   have hg:=zeq z.cps.toList
   have hz:=zE z
   refine⟨_,rfl,z,numOf z,rfl,zcP hn (by omega),by omega,?_⟩
   rcases k with⟨_,k⟩|⟨k1,_⟩
   ·exact k H1 S1
   ·unfold zW at k1
    rw[hn,decide_eq_true (by omega)] at k1
    cases k1
def xJ (ws:List Str):Bool:=decide (ws.length≤60)&&ws.all (zW · 12)
def zg7 (R:Addr):Sp:=fun vs H Q E=>∃(a:Addr) (ws:List Str),vs=[.ref a]∧H a=some (.lst (ws.map V.str))∧(∀u∈ws,u.length≤20000)∧ws.length≤20000∧
 ((xJ ws=true∧∀q H',RowAt H' q (ws.map numOf)→Same H H'→Q (.ref q) H')∨(xJ ws=false∧∀H',Same H H'→E (.ref R) none H'))
abbrev qC:Stmt:=top 46
theorem y3:zl ["words"] ["words"] (zd qC):=fsc_
theorem jO {ws:List Str}{i:Nat}{x:V}(h:(ws.map V.str)[i]?=some x):∃u,ws[i]?=some u∧V.str u=x:=by
 rw[List.getElem?_map] at h
 exact Option.map_eq_some_iff.mp h
theorem xU {α:Type}(p:α→Bool){l:List α}{i:Nat}{x:α}(h:l[i]?=some x)(h1:(l.take i).all p=true)(h2:p x=true):(l.take (i+1)).all p=true:=by
 rw[List.take_add_one,h,List.all_append,h1]
 show[x].all p=true
 rw[List.all_cons,h2];rfl
theorem yg {f fn R:Addr}{fd fdn:FuncData}{tN tF:Tok}(F:Fun K "row_of_words" "row_of_words" qC f fd)(T:Txt mg)(D_number_read:zC K mg "number_read" qh ["word","figures"] fn fdn)(B_number_read:FnOk P w K mg base (CXx P w) 2 fn fdn ["word","figures"] (zeS R))(X_NoAsk:XRz K mg "NoAsk" R)
 (C_ROW_NUMBERS:mg "ROW_NUMBERS"=some (.int qj tN)) (C_ROW_FIGURES:mg "ROW_FIGURES"=some (.int qO tF)):FnOk P w K mg base (CXx P w) 3 f fd ["words"] (zg7 R):=by
 refine F.okX y3 (fun vs H Q E h=>?_) (fun cdv A outer s H vs Q E hr h=>?_)
 ·obtain⟨a,ws,rfl,_⟩:=h
  rfl
 ·obtain⟨a,ws,rfl,ha,hw,hl,k⟩:=h
  have hsl:=sizeLine_eq
  refine⟨_,(ze (z4 (zw zfU (zt (gY (K:=K) rfl) (by rfl) T.b_len PyProof.Rows.Boot.«len» (za (pv 0) pa_nil)) (zK (v:=.int qj) (by rfl) C_ROW_NUMBERS ⟨_,rfl⟩) (zx _))
   (zi (qi zM rfl rfl X_NoAsk.mg X_NoAsk.ex (za zj pa_nil) jY))
   zD)
   (zi (zp (jo (zeA (K:=K) rfl) (by rfl) T.b_tuple PyProof.Rows.Boot.«tuple» (za (zdR zM zhs (N:=["word"]) (cap:=[none]) rfl (show zU ["words"] (zd qC) ["word"] [none] _=true by decide +kernel) (piL (K:=K) rfl (pv 0)) (fun cl D s3 H3 fp pn σ0 hB=>⟨(zr (i:=0) (show(["word"]:List Str).Nodup by decide +kernel) rfl (Or.inl rfl)),zO,fun it acc=>(zI rfl (zo B_number_read (hr.mono (by decide)) rfl D_number_read.mg D_number_read.fn.kp D_number_read.bd .nil (zfT zM hB (fun _ _ _ h=>h)) (za (pv 0) (za (zK (v:=.int qO) (by rfl) C_ROW_FIGURES ⟨_,rfl⟩) pa_nil))))⟩)) pa_nil))))),?_⟩
  have hlm:(ws.map V.str).length=ws.length:=List.length_map _
  refine⟨_,rfl,a,_,rfl,.inl (SqL.of ha),_,_,rfl,rfl,_,rfl,jB (fun e1=>?_) (fun e1=>?_)⟩
  ·have d1:=of_decide_eq_true e1
   unfold qj at d1
   rcases k with⟨k1,_⟩|⟨_,k⟩
   ·unfold xJ at k1
    rw[decide_eq_false (by omega)] at k1;cases k1
   ·exact⟨by show 1≤sizeLine;omega,k H (Same.refl H)⟩
  ·have d1:¬(qj<((ws.map V.str).length:Int)):=fun q=>e1 (decide_eq_true q)
   unfold qj at d1
   have h60:ws.length≤60:=by omega
   refine⟨_,rfl,a,rfl,⟨_,SqL.of ha⟩,fun acc hacc=>?_⟩
   refine qG (xs:=ws.map V.str) (fun i σ H'=>∃v:Option V,σ=[v]∧H' acc=some (.lst (((ws.take i).map numOf).map V.int))∧(ws.take i).all (zW · 12)=true∧Same H H') ⟨none,rfl,zb,rfl,Same.lay hacc⟩ ?_ ?_ ?_
   ·rintro i σ H1 hi ⟨v,rfl,hc,_,S1⟩
    exact SqL.of (S1 _ _ ha)
   ·rintro i x σ H1 hx ⟨v,rfl,hc,ht,S1⟩
    obtain⟨u,hu,rfl⟩:=jO hx
    have hm:=List.mem_of_getElem? hu
    refine⟨_,rfl,u,12,rfl,hw u hm,by omega,?_⟩
    cases hq:zW u 12 with
    |true=>
     refine .inl ⟨rfl,fun H2 S2=>⟨_,S2 _ _ hc,zS (by rw[List.length_map,List.length_map,List.length_take];omega),?_⟩⟩
     refine⟨_,rfl,?_,xU _ hu ht hq,fun b o e=>by rw[zf (zc e hacc)];exact S2 _ _ (S1 _ _ e)⟩
     rw[zb,zH numOf hu,List.map_append]
     rfl
    |false=>
     refine .inr ⟨rfl,fun H2 S2=>?_⟩
     rcases k with⟨k1,_⟩|⟨_,k⟩
     ·unfold xJ at k1
      have:=List.all_eq_true.mp (Bool.and_eq_true_iff.mp k1).2 u hm
      rw[hq] at this;cases this
     ·exact k H2 (S1.trans S2)
   ·rintro σ H1 ⟨v,rfl,hc,ht,S1⟩
    rw[List.length_map,List.take_length] at hc ht
    refine⟨acc,_,rfl,.inl ⟨SqL.of hc,fun q hq=>?_⟩⟩
    rcases k with⟨_,k⟩|⟨k1,_⟩
    ·exact k q _ ⟨zb,by rw[List.length_map];omega⟩ (S1.trans (Same.lay hq))
    ·unfold xJ at k1
     rw[ht,decide_eq_true h60] at k1;cases k1
end
end
section
theorem bq {n:Int}(h:n.natAbs<10^15):n.natAbs.log2<1920:=by
 by_cases h0:n.natAbs=0
 ·rw[h0];decide
 ·exact Nat.lt_trans ((Nat.log2_lt h0).mpr (Nat.lt_trans h (show 10^15<2^64 by decide))) (by decide)
theorem bZ {n:Int}(h:n.natAbs<10^15):ShV (.int n) (qT n):=.inl ⟨n,rfl,bq h,rfl,by have:=jy (by decide) h;have:=sizeLine_eq;omega⟩
def shS (o:Option (Nat×Nat)):Str:=match o with
 |none=>"-"
 |some p=>qT p.1++blank++qT p.2
def smS (s:Int)(p:Nat×Nat):Str:=qT s++blank++shS (some p)
def zbn (p:Nat×Nat):Prop:=p.1≤1000∧p.2≤1000
theorem xx {k:Nat}(h:k≤1000):((k:Nat):Int).natAbs<10^15:=by
 rw[Int.natAbs_natCast]
 exact Nat.lt_of_le_of_lt h (by decide)
theorem zeU {o:Option (Nat×Nat)}(h:∀p,o=some p→zbn p):(shS o).length≤100:=by
 cases o with
 |none=>decide
 |some p=>
  have⟨h1,h2⟩:=h p rfl
  have l1:=jy (by decide) (xx h1)
  have l2:=jy (by decide) (xx h2)
  have l3:blank.length=1:=rfl
  show(qT p.1++blank++qT p.2).length≤100
  rw[strLen_append,strLen_append]
  omega
def zgc:Sp:=fun vs H Q _=>∃(v:V) (o:Option (Nat×Nat)),vs=[v]∧OptAt H v o∧(∀p,o=some p→zbn p)∧Q (.str (shS o)) H
def zbx:Sp:=fun vs H Q _=>∃(a b:Addr) (s:Int) (p:Nat×Nat),vs=[.ref a]∧H a=some (.tup [.int s,.ref b])∧H b=some (.tup (g2 p))∧zbn p∧s.natAbs<10^15∧Q (.str (smS s p)) H
def yM (ps:List (Nat×Nat)):List Str:=[qT ps.length,shS (firstOf ps),shS (vt ps),shS (jl ps)]
def zaK:Sp:=fun vs H Q _=>∃(l:Addr) (xs:List V) (ps:List (Nat×Nat)),vs=[.ref l]∧H l=some (.lst xs)∧TupsAt g2 H xs ps∧ps.Pairwise pLt∧ps.length≤1000000∧(∀p∈ps,zbn p)∧∀q H',H' q=some (.lst ((yM ps).map V.str))→Same H H'→Q (.ref q) H'
theorem zeg {ps:List (Nat×Nat)}{p:Nat×Nat}(h:vt ps=some p):p∈ps:=by
 unfold vt at h
 obtain⟨j,_,e⟩:=Option.bind_eq_some_iff.mp h
 exact List.mem_of_getElem? e
theorem zcr {ps:List (Nat×Nat)}{p:Nat×Nat}(h:jl ps=some p):p∈ps:=by
 unfold jl at h
 obtain⟨j,_,e⟩:=Option.bind_eq_some_iff.mp h
 exact List.mem_of_getElem? e
section
variable {P:Program}{w:World}{K:PySem.W.Frag}{mg:Str→Option Value}{base:Heap}
abbrev qk:Stmt:=top 47
theorem sc_stretch_shown:zl ["stretch","low","high"] ["stretch"] (zd qk):=fsc_
theorem yp {f:Addr}{fd:FuncData}(F:Fun K "stretch_shown" "stretch_shown" qk f fd)(T:Txt mg):FnOk P w K mg base CX0 1 f fd ["stretch"] zgc:=by
 refine F.ok sc_stretch_shown (fun vs H Q E h=>?_) (fun cdv A outer s H vs Q E hr h=>?_)
 ·obtain⟨v,o,rfl,_⟩:=h
  rfl
 ·obtain⟨v,o,rfl,ho,hl,k⟩:=h
  have hsl:=sizeLine_eq
  refine⟨_,(ze (z4 (zw zd3 (pv 0) wc (zx _))
   (zi (zp zj))
   zD)
   (ze (di (pv 0) (pgT (K:=K) (n:=2) rfl rfl (zP (zr (i:=1) sc_stretch_shown.nd rfl (Or.inl rfl)) (zP (zr (i:=2) sc_stretch_shown.nd rfl (Or.inl rfl)) vq))))
   (zi (zp (zdP (pv 1) (pv 2)))))),?_⟩
  cases o with
  |none=>
   obtain rfl:v=.non:=ho
   exact⟨_,rfl,rfl,_,rfl,jN k⟩
  |some p=>
   obtain⟨a,rfl,ha⟩:=ho
   have⟨h1,h2⟩:=hl p rfl
   have l1:=jy (by decide) (xx h1)
   have l2:=jy (by decide) (xx h2)
   have l3:(""++" ":Str).length=1:=rfl
   refine⟨_,rfl,rfl,_,rfl,xE ?_⟩
   refine⟨_,rfl,a,_,rfl,SqT.of ha,rfl,_,_,rfl,_,_,rfl,rfl,?_⟩
   dsimp only[zq]
   exact⟨_,rfl,_,bZ (xx h1),by show(qT p.1).length+1≤sizeLine;omega,_,rfl,_,bZ (xx h2),by show(qT p.1).length+1+(qT p.2).length≤sizeLine;omega,k⟩
abbrev z6:Stmt:=top 48
theorem sc_summed_shown:zl ["pair","own","stretch"] ["pair"] (zd z6):=fsc_
theorem y9 {f fs:Addr}{fd fds:FuncData}(F:Fun K "summed_shown" "summed_shown" z6 f fd)(T:Txt mg)(D_stretch_shown:zC K mg "stretch_shown" qk ["stretch"] fs fds)(G_stretch_shown:FnOk P w K mg base CX0 1 fs fds ["stretch"] zgc):FnOk P w K mg base CX0 2 f fd ["pair"] zbx:=by
 refine F.ok sc_summed_shown (fun vs H Q E h=>?_) (fun cdv A outer s H vs Q E hr h=>?_)
 ·obtain⟨a,b,s,p,rfl,_⟩:=h
  rfl
 ·obtain⟨a,b,s',p,rfl,ha,hb,hp,hs,k⟩:=h
  have hsl:=sizeLine_eq
  refine⟨_,(ze (di (pv 0) (pgT (K:=K) (n:=2) rfl rfl (zP (zr (i:=1) sc_summed_shown.nd rfl (Or.inl rfl)) (zP (zr (i:=2) sc_summed_shown.nd rfl (Or.inl rfl)) vq))))
   (zi (zp (zdP (pv 1) (zo G_stretch_shown (hr.mono (by decide)) rfl D_stretch_shown.mg D_stretch_shown.fn.kp D_stretch_shown.bd .nil zv (za (pv 2) pa_nil)))))),?_⟩
  have l1:=jy (by decide) hs
  have l2:(shS (some p)).length≤100:=zeU fun q e=>by cases e;exact hp
  refine⟨_,rfl,a,_,rfl,SqT.of ha,rfl,_,_,rfl,_,_,rfl,rfl,?_⟩
  dsimp only[zq]
  exact⟨_,rfl,_,bZ hs,by show(qT s').length+1≤sizeLine;omega,_,rfl,_,some p,rfl,⟨b,rfl,hb⟩,(fun q e=>by cases e;exact hp),_,.inr ⟨rfl,by omega⟩,by show(qT s').length+1+(shS (some p)).length≤sizeLine;omega,k⟩
abbrev qR:Stmt:=top 49
theorem sc_four_rows:zl ["stretches","chosen"] ["stretches"] (zd qR):=fsc_
theorem dE {f fs f1 f2 f3:Addr}{fd fds fd1 fd2 fd3:FuncData}(F:Fun K "four_rows" "four_rows" qR f fd)(T:Txt mg)(D_stretch_shown:zC K mg "stretch_shown" qk ["stretch"] fs fds)(G_stretch_shown:FnOk P w K mg base CX0 1 fs fds ["stretch"] zgc)
 (D_first_of:zC K mg "first_of" x8 ["stretches"] f1 fd1) (G_first_of:FnOk P w K mg base CX0 2 f1 fd1 ["stretches"] (yi firstOf))
 (D_longest_of:zC K mg "longest_of" vh ["stretches"] f2 fd2) (G_longest_of:FnOk P w K mg base CX0 3 f2 fd2 ["stretches"] (yi vt))
 (D_shortest_of:zC K mg "shortest_of" jW ["stretches"] f3 fd3) (G_shortest_of:FnOk P w K mg base CX0 3 f3 fd3 ["stretches"] (yi jl)):FnOk P w K mg base CX0 4 f fd ["stretches"] zaK:=by
 refine F.ok sc_four_rows (fun vs H Q E h=>?_) (fun cdv A outer s H vs Q E hr h=>?_)
 ·obtain⟨l,xs,ps,rfl,_⟩:=h
  rfl
 ·obtain⟨l,xs,ps,rfl,hl,ht,hs,hn,hlow,k⟩:=h
  have hsl:=sizeLine_eq
  refine⟨_,(ze (zm (i:=1) sc_four_rows.nd rfl (Or.inl rfl) (zG (za (zo G_first_of (hr.mono (by decide)) rfl D_first_of.mg D_first_of.fn.kp D_first_of.bd .nil zv (za (pv 0) pa_nil)) (za (zo G_longest_of (hr.mono (by decide)) rfl D_longest_of.mg D_longest_of.fn.kp D_longest_of.bd .nil zv (za (pv 0) pa_nil)) (za (zo G_shortest_of (hr.mono (by decide)) rfl D_shortest_of.mg D_shortest_of.fn.kp D_shortest_of.bd .nil zv (za (pv 0) pa_nil)) pa_nil)))))
   (zi (zp (zk qg (zG (za (jo yd (by rfl) T.b_str PyProof.Rows.Boot.«str» (za (zt (gY (K:=K) rfl) (by rfl) T.b_len PyProof.Rows.Boot.«len» (za (pv 0) pa_nil)) pa_nil)) pa_nil)) (qc (N:=["stretch"]) (cap:=[none]) rfl (show zU ["stretches","chosen"] (zd qR) ["stretch"] [none] _=true by decide +kernel) (piL (K:=K) rfl (pv 1)) (fun cl C s3 H3 fp=>⟨(zr (i:=0) (show(["stretch"]:List Str).Nodup by decide +kernel) rfl (Or.inl rfl)),zO,fun it acc=>(zI rfl (zo G_stretch_shown (hr.mono (by decide)) rfl D_stretch_shown.mg D_stretch_shown.fn.kp D_stretch_shown.bd .nil zv (za (pv 0) pa_nil)))⟩)))))),?_⟩
  refine⟨_,rfl,l,xs,ps,rfl,hl,ht,hs,fun v1 H1 o1 S1=>⟨_,rfl,l,xs,ps,rfl,S1 _ _ hl,(ht.mono fun _ _ e=>S1 _ _ e),hs,fun v2 H2 o2 S2=>⟨_,rfl,l,xs,ps,rfl,S2 _ _ (S1 _ _ hl),(ht.mono fun _ _ e=>S2 _ _ (S1 _ _ e)),hs,fun v3 H3 o3 S3=>⟨by show 3≤sizeLine;omega,fun c hc=>?_⟩⟩⟩⟩
  have S4:Same H (upd H3 c (.lst [v1,v2,v3])):=((S1.trans S2).trans S3).trans (Same.lay hc)
  have e4:upd H3 c (.lst [v1,v2,v3]) c=some (.lst [v1,v2,v3]):=zb
  have O:∀(i:Nat) (x:V),[v1,v2,v3][i]?=some x→∃o,[firstOf ps,vt ps,jl ps][i]?=some o∧OptAt (upd H3 c (.lst [v1,v2,v3])) x o∧∀p,o=some p→zbn p:=by
   intro i x hx
   match i,hx with
   |0,hx=>cases hx;exact⟨_,rfl,((o1.mono S2).mono S3).mono (Same.lay hc),fun p e=>hlow p (List.mem_of_getElem? e)⟩
   |1,hx=>cases hx;exact⟨_,rfl,(o2.mono S3).mono (Same.lay hc),fun p e=>hlow p (zeg e)⟩
   |2,hx=>cases hx;exact⟨_,rfl,o3.mono (Same.lay hc),fun p e=>hlow p (zcr e)⟩
  generalize upd H3 c (.lst [v1,v2,v3])=H4 at S4 e4 O
  dsimp only[zq]
  have hn4:((xs.length:Nat):Int).natAbs<10^15:=by
   rw[Int.natAbs_natCast,ht.1]
   exact Nat.lt_of_le_of_lt hn (by decide)
  refine⟨_,rfl,l,_,rfl,.inl (SqL.of (S4 _ _ hl)),_,rfl,bq hn4,by show 1≤sizeLine;omega,fun q1 hq1=>?_⟩
  have S5:Same H4 (upd H4 q1 (.lst [.str (qT xs.length)])):=Same.lay hq1
  have e5:upd H4 q1 (.lst [.str (qT xs.length)]) q1=some (.lst [.str (qT xs.length)]):=zb
  show pG _ _ _ _ _ _ (upd H4 q1 (.lst [.str (qT xs.length)])) _
  generalize upd H4 q1 (.lst [.str (qT xs.length)])=H5 at S5 e5
  refine⟨_,rfl,c,rfl,⟨_,SqL.of (S5 _ _ e4)⟩,fun acc hacc=>?_⟩
  refine qG (xs:=[v1,v2,v3]) (fun i σ H'=>∃v:Option V,σ=[v]∧H' acc=some (.lst ((([firstOf ps,vt ps,jl ps].take i).map shS).map V.str))∧Same H5 H') ⟨none,rfl,zb,Same.lay hacc⟩ ?_ ?_ ?_
  ·rintro i σ H6 hi ⟨v,rfl,ha,S6⟩
   exact SqL.of (S6 _ _ (S5 _ _ e4))
  ·rintro i x σ H6 hx ⟨v,rfl,ha,S6⟩
   obtain⟨o,ho,oa,lo⟩:=O i x hx
   have hi:i<3:=(List.getElem?_eq_some_iff.mp hx).1
   refine⟨_,rfl,x,o,rfl,(oa.mono S5).mono S6,lo,_,ha,zS (by rw[List.length_map,List.length_map,List.length_take];omega),?_⟩
   refine⟨_,rfl,?_,fun b o' e=>by rw[zf (zc e hacc)];exact S6 _ _ e⟩
   rw[zb,zH shS ho,List.map_append]
   rfl
  ·rintro σ H6 ⟨v,rfl,ha,S6⟩
   refine⟨q1,acc,_,_,rfl,rfl,S6 _ _ e5,ha,by show 4≤sizeLine;omega,fun r hr'=>?_⟩
   refine k r _ ?_ ((S4.trans S5).trans (S6.trans (Same.lay hr')))
   rw[zb]
   unfold yM
   rw[ht.1]
   rfl
end
end
section
def cd1 (ns:List Int)(p:Nat×Nat):List Int:=[jL ns p.2-jL ns p.1,(p.1:Int),(p.2:Int)]
def cds (ns:List Int):List (List Int):=(prs ns.length).map (cd1 ns)
theorem kU {ns:List Int}{H:Hp}{xs:List V}(h:SumsAt ns H xs (prs ns.length)):PySem.Paired (VNt H) xs (cds ns):=by
 refine bo (by rw[h.1];unfold cds;rw[List.length_map]) fun i y e=>?_
 unfold cds at e
 rw[List.getElem?_map] at e
 obtain⟨p,e1,rfl⟩:=Option.map_eq_some_iff.mp e
 obtain⟨a,b,h1,h2,h3⟩:=h.2 i p e1
 exact⟨_,h1,a,b,_,_,_,rfl,h2,h3,rfl⟩
theorem zdH:∀n,n<11→(prs n).length≤63:=by decide +kernel
def zbG:Sp:=fun vs H Q _=>∃(p:Addr) (ns:List Int) (n:Nat),vs=[.ref p,.int n]∧RowAt H p ns∧ns.length≤10∧n<(prs ns.length).length∧
 ∀(a b:Addr) (ds:List (List Int)) (s lo hi:Int) (H':Hp),ds.Perm (cds ns)→ds.Pairwise leC→ds[n]?=some [s,lo,hi]→H' a=some (.tup [.int s,.ref b])→H' b=some (.tup [.int lo,.int hi])→Same H H'→Q (.ref a) H'
def pN (R:Addr):Sp:=fun vs H Q E=>∃(p:Addr) (ns:List Int) (n:Int),vs=[.ref p,.int n]∧RowAt H p ns∧ns.length≤10∧¬(0≤n∧n<((prs ns.length).length:Int))∧∀H',Same H H'→E (.ref R) none H'
section
variable {P:Program}{w:World}{K:PySem.W.Frag}{mg:Str→Option Value}{base:Heap}
abbrev jt:Stmt:=top 31
theorem sc_in_order:zl ["row","number","order"] ["row","number"] (zd jt):=fsc_
theorem zab {f fz:Addr}{fd fdz:FuncData}(F:Fun K "in_order" "in_order" jt f fd)(T:Txt mg)(D_summed_stretches:zC K mg "summed_stretches" zB ["row"] fz fdz)(G_summed_stretches:FnOk P w K mg base CX0 2 fz fdz ["row"] vS) :
 FnOk P w K mg base CX0 3 f fd ["row","number"] zbG:=by
 refine F.ok sc_in_order (fun vs H Q E h=>?_) (fun cdv A outer s H vs Q E hr h=>?_)
 ·obtain⟨p,ns,n,rfl,_⟩:=h
  rfl
 ·obtain⟨p,ns,n,rfl,⟨hp,hl⟩,h10,hn,k⟩:=h
  have hu64:=hr.units
  have plen:=zdH ns.length (Nat.lt_succ_of_le h10)
  refine⟨_,(ze (zm (i:=2) sc_in_order.nd rfl (Or.inl rfl) (zt (yU (K:=K) rfl (zha (K:=K) rfl hu64)) (by rfl) T.b_sorted PyProof.Rows.Boot.«sorted» (za (zo G_summed_stretches (hr.mono (by decide)) rfl D_summed_stretches.mg D_summed_stretches.fn.kp D_summed_stretches.bd .nil zv (za (pv 0) pa_nil)) pa_nil)))
   (ze (z4 (vW (wJ gw gu zg (pv 1) (zt (gY (K:=K) rfl) (by rfl) T.b_len PyProof.Rows.Boot.«len» (za (pv 2) pa_nil))))
     (zi zho)
     zD)
   (zi (zp (zJ (ixL (K:=K) rfl) (pv 2) (pv 1) (fun _ _=>rfl)))))),?_⟩
  refine⟨_,rfl,p,ns,rfl,⟨hp,hl⟩,fun q2 ys H2 _ hq2 ht2 S2=>?_⟩
  refine⟨q2,ys,cds ns,rfl,SqL.of hq2,kU ht2,by rw[ht2.1];exact plen,fun q ws ds hq pw pd dp so=>?_⟩
  have wl:ws.length=(prs ns.length).length:=by rw[pw.length_eq,ht2.1]
  have S3:Same H2 (upd H2 q (.lst ws)):=Same.lay hq
  refine⟨_,rfl,_,_,rfl,rfl,_,rfl,?_⟩
  rw[decide_eq_true (show(0:Int)≤(n:Int) by omega)]
  refine jN ⟨_,rfl,q,_,rfl,.inl (SqL.of zb),_,_,rfl,rfl,_,rfl,?_⟩
  rw[decide_eq_true (show(n:Int)<(ws.length:Int) by omega)]
  refine xE ?_
  have hnd:n<ds.length:=by rw[←PySem.Paired.length pd,wl];exact hn
  obtain⟨v,e1,e2⟩:=Paired.atR pd (List.getElem?_eq_getElem hnd)
  obtain⟨a,b,s,lo,hi,rfl,ha,hb,hc⟩:=e2
  refine⟨_,rfl,_,rfl,q,_,_,_,rfl,rfl,SqL.of zb,qP e1,?_⟩
  exact k a b ds s lo hi _ dp so (by rw[List.getElem?_eq_getElem hnd,hc]) (S3 _ _ ha) (S3 _ _ hb) (S2.trans S3)
theorem dW {f fz R:Addr}{fd fdz:FuncData}(F:Fun K "in_order" "in_order" jt f fd)(T:Txt mg)(D_summed_stretches:zC K mg "summed_stretches" zB ["row"] fz fdz)(G_summed_stretches:FnOk P w K mg base CX0 2 fz fdz ["row"] vS)(X_NoStretch:XRz K mg "NoStretch" R) :
 FnOk P w K mg base (CXx P w) 3 f fd ["row","number"] (pN R):=by
 refine F.okX sc_in_order (fun vs H Q E h=>?_) (fun cdv A outer s H vs Q E hr h=>?_)
 ·obtain⟨p,ns,n,rfl,_⟩:=h
  rfl
 ·obtain⟨p,ns,n,rfl,⟨hp,hl⟩,h10,hn,k⟩:=h
  have hu64:=hr.units
  have plen:=zdH ns.length (Nat.lt_succ_of_le h10)
  refine⟨_,(ze (zm (i:=2) sc_in_order.nd rfl (Or.inl rfl) (zt (yU (K:=K) rfl (zha (K:=K) rfl hu64)) (by rfl) T.b_sorted PyProof.Rows.Boot.«sorted» (za (zo G_summed_stretches (hr.mono (by decide)) rfl D_summed_stretches.mg D_summed_stretches.fn.kp D_summed_stretches.bd .nil zv (za (pv 0) pa_nil)) pa_nil)))
   (ze (z4 (vW (wJ gw gu zg (pv 1) (zt (gY (K:=K) rfl) (by rfl) T.b_len PyProof.Rows.Boot.«len» (za (pv 2) pa_nil))))
     (zi (qi zM rfl rfl X_NoStretch.mg X_NoStretch.ex (za zj pa_nil) jY))
     zD)
   (zi (zp (zJ (ixL (K:=K) rfl) (pv 2) (pv 1) (fun _ _=>rfl)))))),?_⟩
  refine⟨_,rfl,p,ns,rfl,⟨hp,hl⟩,fun q2 ys H2 _ hq2 ht2 S2=>?_⟩
  refine⟨q2,ys,cds ns,rfl,SqL.of hq2,kU ht2,by rw[ht2.1];exact plen,fun q ws ds hq pw pd dp so=>?_⟩
  have wl:ws.length=(prs ns.length).length:=by rw[pw.length_eq,ht2.1]
  have S3:Same H2 (upd H2 q (.lst ws)):=Same.lay hq
  have fin:∀(D:Ends) (σ:St),x4 R E (j5 (tC (.str "no stretch of the row has this number in the order")) yh) D σ (upd H2 q (.lst ws)):=fun D σ=>⟨by show 1≤sizeLine;decide,k _ (S2.trans S3)⟩
  refine⟨_,rfl,_,_,rfl,rfl,_,rfl,jB (fun e1=>⟨_,rfl,q,_,rfl,.inl (SqL.of zb),_,_,rfl,rfl,_,rfl,?_⟩) (fun e=>⟨_,rfl,jN (fin _ _)⟩)⟩
  have e2:¬n<(ws.length:Int):=fun z=>hn ⟨of_decide_eq_true e1,by rw[wl] at z;exact z⟩
  rw[decide_eq_false e2]
  exact jN (fin _ _)
end
end
section
def zbD (R:Addr):Sp:=fun vs H Q E=>∃(m rs:Int),vs=[.int m,.int rs]∧¬(0≤rs∧rs<m)∧∀H',Same H H'→E (.ref R) none H'
def zbz (R:Addr):Sp:=fun vs H Q E=>∃(p:Addr) (m rs:Int),vs=[.ref p,.int m,.int rs]∧¬(0≤rs∧rs<m)∧∀H',Same H H'→E (.ref R) none H'
def zdv (R:Addr):Sp:=fun vs H Q E=>∃(p:Addr) (ns:List Int) (pl n:Int),vs=[.ref p,.int pl,.int n]∧RowAt H p ns∧¬(0≤pl∧pl<(ns.length:Int))∧∀H',Same H H'→E (.ref R) none H'
def wy (H:Hp)(l:Addr)(is:List Int):Prop:=H l=some (.lst (is.map V.int))
def z9 (H:Hp)(l:Addr)(zs:List Str):Prop:=H l=some (.lst (zs.map V.str))
def zds:Sp:=fun vs H Q _=>∃(p l:Addr) (ns:List Int),vs=[.ref p,.ref l]∧RowAt H p ns∧Sml ns∧∀q H',z9 H' q [shown ns]→Same H H'→Q (.ref q) H'
def za5 (ns:List Int)(t:Int):List (Nat×Nat):=za4 ns (fun s=>decide (s=t))
def zbH:Sp:=fun vs H Q _=>∃(p l:Addr) (ns:List Int) (t:Int),vs=[.ref p,.ref l]∧RowAt H p ns∧wy H l [t]∧∀q H',z9 H' q (yM (za5 ns t))→Same H H'→Q (.ref q) H'
def row437:List Int:=[4,-7,3]
def zbA:Sp:=fun vs H Q _=>∃(p l:Addr),vs=[.ref p,.ref l]∧RowAt H p row437∧wy H l [2]∧∀q H',z9 H' q ["-3 0 2"]→Same H H'→Q (.ref q) H'
def pL (R:Addr):Sp:=fun vs H Q E=>∃(p l:Addr) (ns:List Int) (n:Int),vs=[.ref p,.ref l]∧RowAt H p ns∧wy H l [n]∧ns.length≤10∧¬(0≤n∧n<((prs ns.length).length:Int))∧∀H',Same H H'→E (.ref R) none H'
def kY (R:Addr):Sp:=fun vs H Q E=>∃(p l:Addr) (m rs:Int),vs=[.ref p,.ref l]∧wy H l [m,rs]∧¬(0≤rs∧rs<m)∧∀H',Same H H'→E (.ref R) none H'
def zdZ:List (List Int):=[[-7,1,2],[-4,1,3],[-3,0,2],[0,0,3],[3,2,3],[4,0,1]]
theorem zcH {ds:List (List Int)}(h:ds.Perm (cds row437))(hs:ds.Pairwise leC):ds=zdZ:=by
 have hp:(cds row437).Perm zdZ:=by decide +kernel
 exact pP (h.trans hp) hs (by decide +kernel)
theorem zft {ns:List Int}(hn:ns.length≤1000){t:Int}{p:Nat×Nat}(h:p∈za5 ns t):zbn p:=by
 have:=zbP (List.mem_filter.mp h).1
 exact⟨by omega,by omega⟩
section
variable {P:Program}{w:World}{K:PySem.W.Frag}{mg:Str→Option Value}{base:Heap}{R:Addr}
abbrev jr:Stmt:=top 36
theorem y4:zl ["m","rest"] ["m","rest"] (zd jr):=fsc_
theorem yz {f:Addr}{fd:FuncData}(F:Fun K "look_at_rest" "look_at_rest" jr f fd)(T:Txt mg)(X_NoRest:XRz K mg "NoRest" R):FnOk P w K mg base (CXx P w) 1 f fd ["m","rest"] (zbD R):=by
 refine F.okX y4 (fun vs H Q E h=>?_) (fun cdv A outer s H vs Q E hr h=>?_)
 ·obtain⟨m,rs,rfl,_⟩:=h
  rfl
 ·obtain⟨m,rs,rfl,hn,k⟩:=h
  refine⟨_,(zi (z4 (vW (wJ gw gu zg (pv 1) (pv 0)))
   (zi (qi zM rfl rfl X_NoRest.mg X_NoRest.ex (za zj pa_nil) jY))
   zD)),?_⟩
  have fin:∀(D:Ends) (σ:St),x4 R E (j5 (tC (.str "m is from 1 on, a rest by it from 0 to m - 1")) yh) D σ H:=fun D σ=>⟨by show 1≤sizeLine;decide,k H (Same.refl H)⟩
  refine⟨_,rfl,_,_,rfl,rfl,_,rfl,jB (fun e=>⟨_,rfl,_,_,rfl,rfl,_,rfl,?_⟩) (fun e=>?_)⟩
  ·have e':¬rs<m:=fun z=>hn ⟨of_decide_eq_true e,z⟩
   rw[decide_eq_false e']
   exact jN (fin _ _)
  ·exact⟨_,rfl,jN (fin _ _)⟩
abbrev x9:Stmt:=top 37
theorem pV:zl ["row","m","rest"] ["row","m","rest"] (zd x9):=fsc_
theorem dX {f fk:Addr}{fd fdk:FuncData}(F:Fun K "all_rest" "all_rest" x9 f fd)(T:Txt mg)(D_look_at_rest:zC K mg "look_at_rest" jr ["m","rest"] fk fdk)(B_look_at_rest:FnOk P w K mg base (CXx P w) 1 fk fdk ["m","rest"] (zbD R)) :
 FnOk P w K mg base (CXx P w) 2 f fd ["row","m","rest"] (zbz R):=by
 refine F.okX pV (fun vs H Q E h=>?_) (fun cdv A outer s H vs Q E hr h=>?_)
 ·obtain⟨p,m,rs,rfl,_⟩:=h
  rfl
 ·obtain⟨p,m,rs,rfl,hn,k⟩:=h
  refine⟨_,(ze (dh (zo B_look_at_rest (hr.mono (by decide)) rfl D_look_at_rest.mg D_look_at_rest.fn.kp D_look_at_rest.bd .nil (jT fun _ _ _ h=>h) (za (pv 1) (za (pv 2) pa_nil)))) zgl),?_⟩
  exact⟨_,rfl,_,rfl,m,rs,rfl,hn,k⟩
abbrev yj:Stmt:=top 29
theorem zaN:zl ["row","place","number"] ["row","place","number"] (zd yj):=fsc_
theorem zau {f:Addr}{fd:FuncData}(F:Fun K "row_led" "row_led" yj f fd)(T:Txt mg)(X_NoPlace:XRz K mg "NoPlace" R):FnOk P w K mg base (CXx P w) 1 f fd ["row","place","number"] (zdv R):=by
 refine F.okX zaN (fun vs H Q E h=>?_) (fun cdv A outer s H vs Q E hr h=>?_)
 ·obtain⟨p,ns,pl,n,rfl,_⟩:=h
  rfl
 ·obtain⟨p,ns,pl,n,rfl,hp,hn,k⟩:=h
  refine⟨_,(ze (z4 (vW (wJ gw gu zg (pv 1) (zt (gY (K:=K) rfl) (by rfl) T.b_len PyProof.Rows.Boot.«len» (za (pv 0) pa_nil))))
   (zi (qi zM rfl rfl X_NoPlace.mg X_NoPlace.ex (za zj pa_nil) jY))
   zD)
   (zi (zp (zk zfW (zk zfW (wM zg8 (pv 0) kH (kG (pv 1))) (zL (za (pv 2) pa_nil))) (wM zg8 (pv 0) (kG (zk vX (pv 1) zg)) kH))))),?_⟩
  have fin:∀(D:Ends) (σ:St),x4 R E (j5 (tC (.str "the row has no number at this place")) yh) D σ H:=fun D σ=>⟨by show 1≤sizeLine;decide,k H (Same.refl H)⟩
  refine⟨_,rfl,_,_,rfl,rfl,_,rfl,jB (fun e1=>⟨_,rfl,p,_,rfl,.inr (SqT.of hp.1),_,_,rfl,rfl,_,rfl,?_⟩) (fun e1=>⟨_,rfl,jN (fin _ _)⟩)⟩
  have e2:¬pl<((ns.map V.int).length:Int):=fun z=>hn ⟨of_decide_eq_true e1,by rw[List.length_map] at z;exact z⟩
  rw[decide_eq_false e2]
  exact jN (fin _ _)
abbrev xG:Stmt:=top 50
theorem k8:zl ["row","numbers"] ["row","numbers"] (zd xG):=fsc_
theorem gz {f f1:Addr}{fd fd1:FuncData}(F:Fun K "answer_show" "answer_show" xG f fd)(T:Txt mg)(D_row_shown:zC K mg "row_shown" jP ["row"] f1 fd1)(G_row_shown:FnOk P w K mg base CX0 1 f1 fd1 ["row"] zby) :
 FnOk P w K mg base CX0 2 f fd ["row","numbers"] zds:=by
 refine F.ok k8 (fun vs H Q E h=>?_) (fun cdv A outer s H vs Q E hr h=>?_)
 ·obtain⟨p,l,ns,rfl,_⟩:=h
  rfl
 ·obtain⟨p,l,ns,rfl,hp,hs,k⟩:=h
  refine⟨_,(zi (zp (zG (za (zo G_row_shown (hr.mono (by decide)) rfl D_row_shown.mg D_row_shown.fn.kp D_row_shown.bd .nil zv (za (pv 0) pa_nil)) pa_nil)))),?_⟩
  exact⟨_,rfl,p,ns,rfl,hp.1,hp.2,hs,fun H1 S1=>⟨by show 1≤sizeLine;decide,fun q hq=>k q _ zb (S1.trans (Same.lay hq))⟩⟩
abbrev vU:Stmt:=top 51
theorem y7:zl ["row","numbers"] ["row","numbers"] (zd vU):=fsc_
theorem kc {f f1 f2:Addr}{fd fd1 fd2:FuncData}(F:Fun K "answer_count" "answer_count" vU f fd)(T:Txt mg)(D_all_with:zC K mg "all_with" vk ["row","total"] f1 fd1)(G_all_with:FnOk P w K mg base CX0 3 f1 fd1 ["row","total"] zfP)
 (D_four_rows:zC K mg "four_rows" qR ["stretches"] f2 fd2) (G_four_rows:FnOk P w K mg base CX0 4 f2 fd2 ["stretches"] zaK) :
 FnOk P w K mg base CX0 5 f fd ["row","numbers"] zbH:=by
 refine F.ok y7 (fun vs H Q E h=>?_) (fun cdv A outer s H vs Q E hr h=>?_)
 ·obtain⟨p,l,ns,t,rfl,_⟩:=h
  rfl
 ·obtain⟨p,l,ns,t,rfl,hp,hl,k⟩:=h
  refine⟨_,(zi (zp (zo G_four_rows (hr.mono (by decide)) rfl D_four_rows.mg D_four_rows.fn.kp D_four_rows.bd .nil zv (za (zo G_all_with (hr.mono (by decide)) rfl D_all_with.mg D_all_with.fn.kp D_all_with.bd .nil zv (za (pv 0) (za (zJ (ixL (K:=K) rfl) (pv 1) zg (fun _ _=>rfl)) pa_nil))) pa_nil)))),?_⟩
  refine⟨_,rfl,_,rfl,l,_,0,_,rfl,rfl,SqL.of hl,rfl,p,ns,t,rfl,hp,fun q xs H1 _ hq ht S1=>?_⟩
  exact⟨q,xs,_,rfl,hq,ht,fD _ _,Nat.le_trans (List.length_filter_le _ _) (dj _ hp.2),fun p h=>zft hp.2 h,fun r H2 hr2 S2=>k r H2 hr2 (S1.trans S2)⟩
abbrev ju:Stmt:=top 54
theorem vE:zl ["row","numbers"] ["row","numbers"] (zd ju):=fsc_
theorem kb {f f1 f2:Addr}{fd fd1 fd2:FuncData}(F:Fun K "answer_order" "answer_order" ju f fd)(T:Txt mg)(D_in_order:zC K mg "in_order" jt ["row","number"] f1 fd1)(G_in_order:FnOk P w K mg base CX0 3 f1 fd1 ["row","number"] zbG)
 (D_summed_shown:zC K mg "summed_shown" z6 ["pair"] f2 fd2) (G_summed_shown:FnOk P w K mg base CX0 2 f2 fd2 ["pair"] zbx) :
 FnOk P w K mg base CX0 4 f fd ["row","numbers"] zbA:=by
 refine F.ok vE (fun vs H Q E h=>?_) (fun cdv A outer s H vs Q E hr h=>?_)
 ·obtain⟨p,l,rfl,_⟩:=h
  rfl
 ·obtain⟨p,l,rfl,hp,hl,k⟩:=h
  refine⟨_,(zi (zp (zG (za (zo G_summed_shown (hr.mono (by decide)) rfl D_summed_shown.mg D_summed_shown.fn.kp D_summed_shown.bd .nil zv (za (zo G_in_order (hr.mono (by decide)) rfl D_in_order.mg D_in_order.fn.kp D_in_order.bd .nil zv (za (pv 0) (za (zJ (ixL (K:=K) rfl) (pv 1) zg (fun _ _=>rfl)) pa_nil))) pa_nil)) pa_nil)))),?_⟩
  refine⟨_,rfl,_,rfl,l,_,0,_,rfl,rfl,SqL.of hl,rfl,p,_,2,rfl,hp,by decide,by decide +kernel,fun a b ds s1 lo hi H1 d1 d2 d3 ha hb S1=>?_⟩
  rw[zcH d1 d2] at d3
  cases d3
  exact⟨a,b,-3,(0,2),rfl,ha,hb,by unfold zbn;omega,by decide,by show 1≤sizeLine;decide,fun q hq=>k q _ (by show upd H1 q _ q=_;rw[zb,show smS (-3) (0,2)=("-3 0 2":Str) by decide +kernel];rfl) (S1.trans (Same.lay hq))⟩
theorem yA {f f1 f2:Addr}{fd fd1 fd2:FuncData}(F:Fun K "answer_order" "answer_order" ju f fd)(T:Txt mg)(D_in_order:zC K mg "in_order" jt ["row","number"] f1 fd1)(B_in_order:FnOk P w K mg base (CXx P w) 3 f1 fd1 ["row","number"] (pN R))
 (D_summed_shown:zC K mg "summed_shown" z6 ["pair"] f2 fd2) (G_summed_shown:FnOk P w K mg base CX0 2 f2 fd2 ["pair"] zbx) :
 FnOk P w K mg base (CXx P w) 4 f fd ["row","numbers"] (pL R):=by
 refine F.okX vE (fun vs H Q E h=>?_) (fun cdv A outer s H vs Q E hr h=>?_)
 ·obtain⟨p,l,ns,n,rfl,_⟩:=h
  rfl
 ·obtain⟨p,l,ns,n,rfl,hp,hl,h10,hn,k⟩:=h
  refine⟨_,(zi (zp (zG (za (zo G_summed_shown (hr.mono (by decide)) rfl D_summed_shown.mg D_summed_shown.fn.kp D_summed_shown.bd .nil zv (za (zo B_in_order (hr.mono (by decide)) rfl D_in_order.mg D_in_order.fn.kp D_in_order.bd .nil (jT fun _ _ _ h=>h) (za (pv 0) (za (zJ (ixL (K:=K) rfl) (pv 1) zg (fun _ _=>rfl)) pa_nil))) pa_nil)) pa_nil)))),?_⟩
  exact⟨_,rfl,_,rfl,l,_,0,_,rfl,rfl,SqL.of hl,rfl,p,ns,n,rfl,hp,h10,hn,k⟩
abbrev xH:Stmt:=top 53
theorem k9:zl ["row","numbers"] ["row","numbers"] (zd xH):=fsc_
theorem ki {f f1 f2:Addr}{fd fd1 fd2:FuncData}(F:Fun K "answer_rest" "answer_rest" xH f fd)(T:Txt mg)(D_all_rest:zC K mg "all_rest" x9 ["row","m","rest"] f1 fd1)(B_all_rest:FnOk P w K mg base (CXx P w) 2 f1 fd1 ["row","m","rest"] (zbz R))
 (D_four_rows:zC K mg "four_rows" qR ["stretches"] f2 fd2) (G_four_rows:FnOk P w K mg base CX0 4 f2 fd2 ["stretches"] zaK) :
 FnOk P w K mg base (CXx P w) 5 f fd ["row","numbers"] (kY R):=by
 refine F.okX k9 (fun vs H Q E h=>?_) (fun cdv A outer s H vs Q E hr h=>?_)
 ·obtain⟨p,l,m,rs,rfl,_⟩:=h
  rfl
 ·obtain⟨p,l,m,rs,rfl,hl,hn,k⟩:=h
  refine⟨_,(zi (zp (zo G_four_rows (hr.mono (by decide)) rfl D_four_rows.mg D_four_rows.fn.kp D_four_rows.bd .nil zv (za (zo B_all_rest (hr.mono (by decide)) rfl D_all_rest.mg D_all_rest.fn.kp D_all_rest.bd .nil (jT fun _ _ _ h=>h) (za (pv 0) (za (zJ (ixL (K:=K) rfl) (pv 1) zg (fun _ _=>rfl)) (za (zJ (ixL (K:=K) rfl) (pv 1) zg (fun _ _=>rfl)) pa_nil)))) pa_nil)))),?_⟩
  exact⟨_,rfl,_,rfl,l,_,0,_,rfl,rfl,SqL.of hl,rfl,_,rfl,l,_,1,_,rfl,rfl,SqL.of hl,rfl,p,m,rs,rfl,hn,k⟩
end
end
end My
namespace L2
open PySem PySem.Spec PyProof.Rows
section
structure zeI (K:PySem.W.Frag)(mg:Str→Option Value)(x:Str)(st:Stmt)(ps:List Str)(f:Addr)(fd:FuncData)(c P:Addr):Prop where
 fn:FunC K x x st f fd c P
 mg:mg x=some (.ref f)
 bd:Binds K fd ps []
def TabAt (pos:Pos)(qual:Str)(P:Addr)(H:Hp):Prop:=H P=some (.tbl #[])∨∃c,H P=some (.tbl (bW pos c))∧H c=some (xY c qual)
def Kq (l:Addr)(H H':Hp):Prop:=∀b o,H b=some o→b≠l→H' b=some o
theorem TabAt.ne {pos:Pos}{qual:Str}{P b:Addr}{H:Hp}{o:HO}(h:TabAt pos qual P H)(hb:H b=some o)(ho:∀ps,o≠.tbl ps):b≠P:=by
 rintro rfl
 rcases h with h|⟨c,h,_⟩
 ·rw[hb] at h;cases h;exact ho _ rfl
 ·rw[hb] at h;cases h;exact ho _ rfl
theorem TabAt.keep {pos:Pos}{qual:Str}{P:Addr}{H H':Hp}(h:TabAt pos qual P H)(s:Same H H'):TabAt pos qual P H':=by
 rcases h with h|⟨c,h1,h2⟩
 ·exact .inl (s _ _ h)
 ·exact .inr ⟨c,s _ _ h1,s _ _ h2⟩
theorem zeN {pos:Pos}{qual:Str}{P:Addr}{fd:Addr→Value→FuncData}{σ:St}{H:Hp}{Q:VK}(h:TabAt pos qual P H)
 (k:∀f c ct H',H f=none→H' f=some (fT f (fd c ct))→H' c=some (xY c qual)→H' P=some (.tbl (bW pos c))→Kq P H H'→Q (.ref f) H'):zgV P pos qual fd σ H Q:=by
 rcases h with h|⟨c,h1,h2⟩
 ·refine .inl ⟨h,fun f c ct hf hc n=>?_⟩
  have nP:P≠f:=zc h hf
  have nPc:P≠c:=zc h hc
  refine k f c ct _ hf zb (by rw[zf (Ne.symm n),zb]) (by rw[zf nP,zf nPc,zb]) fun b o e nb=>?_
  rw[zf (zc e hf),zf (zc e hc),zf nb];exact e
 ·refine .inr ⟨c,h1,h2,fun f ct hf=>?_⟩
  refine k f c ct _ hf zb (by rw[zf (zc h2 hf)];exact h2) (by rw[zf (zc h1 hf)];exact h1) fun b o e nb=>?_
  rw[zf (zc e hf)];exact e
def zim (e:Expr):Arguments:=match e with
 | .Lambda a _ _ _=>a
 |_=>⟨[],[],none,[],[],none,[]⟩
def zil (e:Expr):Expr:=match e with
 | .Lambda _ b _ _=>b
 |_=>e
def zhx (e:Expr)(d:Scope):Scope:=match e with
 | .Lambda _ _ s _=>s
 |_=>d
def zik (e:Expr):Pos:=match e with
 | .Lambda _ _ _ p=>p
 |_=>⟨0,0,0,0⟩
end
end L2
namespace My
open PySem L2
section
def Kp (l:Addr)(H H':Hp):Prop:=∀b o,H b=some o→b≠l→H' b=some o
theorem Kp.trans {l:Addr}{H H1 H2:Hp}(a:Kp l H H1)(b:Kp l H1 H2):Kp l H H2:=fun x o h n=>b x o (a x o h n) n
theorem Kp.of {l:Addr}{H H':Hp}(s:Same H H'):Kp l H H':=fun b o h _=>s b o h
theorem Kp.same {l:Addr}{H H1 H':Hp}(s:Same H H1)(h:H l=none)(k:Kp l H1 H'):Same H H':=fun b o e=>k b o (s b o e) (zc e h)
theorem Kp.tups {α:Type}{g:α→List V}{l:Addr}{H H':Hp}{xs ys:List V}{ps:List α}(k:Kp l H H')(hl:H l=some (.lst ys))(h:TupsAt g H xs ps):TupsAt g H' xs ps:=h.mono fun a zs e=>k a _ e (wQ e hl (by intro z;cases z))
end
section
abbrev z0:Stmt:=top 32
def qU:Expr:=match qE z0 with
 | .Return (some (.Call _ _ (⟨_,l,_⟩::_) _)) _::_=>l
 |_=>.Name "x" ⟨0,0,0,0⟩
abbrev f9:Str:=("nearest"++".<locals>.")++"<lambda>"
abbrev zdc (P:Addr)(H:Hp):Prop:=TabAt (zik qU) f9 P H
def zbB (P:Addr):Sp:=fun vs H Q _=>∃(p:Addr) (tot:Int),vs=[.ref p,.int tot]∧RowAt H p []∧zdc P H∧∀H',Kp P H H'→Q .non H'
def fZ (P:Addr):Sp:=fun vs H Q _=>∃(p l:Addr) (tot:Int),vs=[.ref p,.ref l]∧RowAt H p []∧wy H l [tot]∧zdc P H∧∀q H',z9 H' q []→Kp P H H'→Q (.ref q) H'
section
variable {P:Program}{w:World}{K:PySem.W.Frag}{mg:Str→Option Value}{base:Heap}
theorem zaP:zl ["row","total"] ["row","total"] (zd z0):=fsc_
theorem zaX {f fz c T0:Addr}{fd fdz:FuncData}(F:FunC K "nearest" "nearest" z0 f fd c T0)(T:Txt mg)(BM:zbs mg base)(D_summed_stretches:zC K mg "summed_stretches" zB ["row"] fz fdz)(G_summed_stretches:FnOk P w K mg base CX0 2 fz fdz ["row"] vS):FnOk P w K mg base CX0 4 f fd ["row","total"] (zbB T0):=by
 refine F.ok zaP (fun vs H Q E h=>?_) (fun A outer s H vs Q E hr h=>?_)
 ·obtain⟨p,tot,rfl,_⟩:=h
  rfl
 ·obtain⟨p,tot,rfl,hp,hT,k⟩:=h
  have hr1:=hr.in1
  have hu24:(A.deeper (PyProof.Rows.envOfC "nearest" (zd z0) s.heap.objs.size f (.ref c))).in1.units+24<cLine:=by have:=hr1.un;omega
  obtain⟨cl,e0,cl1,cl2⟩:=zfp (env:=PyProof.Rows.envOfC "nearest" (zd z0) s.heap.objs.size f (.ref c)) (outer:=zd z0) (scope:=zhx qU (zd z0)) (n:=s.heap.objs.size+1) rfl (by decide +kernel)
  refine⟨_,(zi (zp (zaV (ziu true true (K:=K) (y:="pair") (Nc:=["total"]) (cap:=[some 1]) (cl:=cl) (name:="<lambda>") (qual:=f9) (params:=zim qU) (body:=zil qU) (scope:=zhx qU (zd z0)) (pm:=(mg "__name__").getD .none) rfl rfl (zit hu24) zdi ⟨(show zU ["row","total"] (zd z0) ["total"] [some 1] _=true by decide +kernel),rfl,rfl,rfl,e0,cl1,cl2⟩ hr1 (fun _ _ _=>rfl) (fun _ _ _ _=>(zL (za (zt zez (by rfl) T.b_abs PyProof.Rows.Boot.«abs» (za (zk du (zJ (ixT (K:=K) rfl) (pv 0) zg (fun _ _=>rfl)) (pv 1)) pa_nil)) (za (pv 0) pa_nil))))) (by rfl) T.b_min PyProof.Rows.Boot.«min» (za (zo G_summed_stretches (hr.mono (by decide)) rfl D_summed_stretches.mg D_summed_stretches.fn.kp D_summed_stretches.bd .nil zv (za (pv 0) pa_nil)) pa_nil) (vp (ze3 rfl F.hd BM e0) (vp wc dk))))),?_⟩
  refine⟨_,rfl,p,[],rfl,hp,fun q xs H1 _ hq ht S1=>?_⟩
  have T1:=hT.keep S1
  have hx0:xs=[]:=List.eq_nil_of_length_eq_zero ht.1
  subst hx0
  dsimp -proj only [yh,j5]
  refine zeN T1 fun fl c' ct H2 hfn hl2 hc2 hP2 K2=>?_
  have nT:∀b o,H1 b=some o→(∀ps,o≠.tbl ps)→H2 b=some o:=fun b o e n=>K2 b o e (T1.ne e n)
  have hq2:=nT _ _ hq (by intro ps z;cases z)
  refine⟨q,fl,c',ct,[],fun i=>[],rfl,rfl,SqL.of hq2,(fun z=>nomatch z),hl2,hc2,?_,?_⟩
  ·intro i x H' hx S'
   cases hx
  ·intro H3 S3
   exact k H3 fun b o e n=>S3 _ _ (K2 _ _ (S1 _ _ e) n)
abbrev xI:Stmt:=top 55
theorem sc_answer_near:zl ["row","numbers","pair"] ["row","numbers"] (zd xI):=fsc_
theorem gB {f f1 f2 c T0:Addr}{fd fd1 fd2:FuncData}(F:Fun K "answer_near" "answer_near" xI f fd)(T:Txt mg)(D_nearest:zeI K mg "nearest" z0 ["row","total"] f1 fd1 c T0)(G_nearest:FnOk P w K mg base CX0 4 f1 fd1 ["row","total"] (zbB T0))
 (D_summed_shown:zC K mg "summed_shown" z6 ["pair"] f2 fd2) (G_summed_shown:FnOk P w K mg base CX0 2 f2 fd2 ["pair"] zbx) :
 FnOk P w K mg base CX0 5 f fd ["row","numbers"] (fZ T0):=by
 refine F.ok sc_answer_near (fun vs H Q E h=>?_) (fun cdv A outer s H vs Q E hr h=>?_)
 ·obtain⟨p,l,tot,rfl,_⟩:=h
  rfl
 ·obtain⟨p,l,tot,rfl,hp,hl,hT,k⟩:=h
  refine⟨_,(ze (zm (i:=2) sc_answer_near.nd rfl (Or.inl rfl) (zo G_nearest (hr.mono (by decide)) rfl D_nearest.mg D_nearest.fn.kp D_nearest.bd .nil zv (za (pv 0) (za (zJ (ixL (K:=K) rfl) (pv 1) zg (fun _ _=>rfl)) pa_nil))))
   (zi (zp (zdO (zw zd3 (pv 2) wc (zx _)) (zG pa_nil) (zG (za (zo G_summed_shown (hr.mono (by decide)) rfl D_summed_shown.mg D_summed_shown.fn.kp D_summed_shown.bd .nil zv (za (pv 2) pa_nil)) pa_nil)))))),?_⟩
  refine⟨_,rfl,_,rfl,l,_,0,_,rfl,rfl,SqL.of hl,rfl,p,tot,rfl,hp,hT,fun H1 K1=>?_⟩
  dsimp only[zq]
  refine⟨_,rfl,rfl,_,rfl,jN ⟨by show 0≤sizeLine;decide,fun q hq=>k q _ zb fun b o e n=>?_⟩⟩
  have e1:=K1 b o e n
  rw[zf (zc e1 hq)]
  exact e1
end
end
section
structure MethAt (K:PySem.W.Frag)(C:Addr)(x qual:Str)(st:Stmt)(ps:List Str)(f:Addr)(fd:FuncData):Prop where
 fn:Fun K x qual st f fd
 mt:zgN K C x f
 bd:Binds K fd ps []
structure fQ (K:PySem.W.Frag)(mg:Str→Option Value)(C:Addr):Prop where
 cl:Cls K C
 nR:NoAttr K C "rows_by_name"
 mgC:mg "Desk"=some (.ref C)
theorem RowAt.same {H H':Hp}{p:Addr}{ns:List Int}(h:RowAt H p ns)(s:Same H H'):RowAt H' p ns:=⟨s _ _ h.1,h.2⟩
abbrev Rows:=List (Str×List Int)
def qY:Rows→Str→Option (List Int)
 |[],_=>none
 |r::rs,n=>if r.1=n then some r.2 else qY rs n
def RowsAt (H:Hp)(kvs:List (Key×V))(rows:Rows):Prop:=PySem.Paired (fun(kv:Key×V) (r:Str×List Int)=>kv.1=.inr r.1∧∃p,kv.2=.ref p∧RowAt H p r.2) kvs rows
theorem RowsAt.keep {H H':Hp}{kvs:List (Key×V)}{rows:Rows}(h:RowsAt H kvs rows)(k:∀b zs,H b=some (.tup zs)→H' b=some (.tup zs)):RowsAt H' kvs rows:=
 Paired.imp' (fun _ _ ⟨e,p,e2,h2⟩=>⟨e,p,e2,k _ _ h2.1,h2.2⟩) h
theorem gf {H:Hp}:∀{kvs:List (Key×V)}{rows:Rows}(n:Str),RowsAt H kvs rows→(qY rows n=none∧qQ kvs (.inr n)=none)∨∃ns p,qY rows n=some ns∧qQ kvs (.inr n)=some (.ref p)∧RowAt H p ns
 |_,_,n,.nil=>.inl ⟨rfl,rfl⟩
 |(k,v)::kvs,r::rows,n,.cons ⟨e,p,e2,h2⟩ t=>by
  have e:k=.inr r.1:=e
  have e2:v=.ref p:=e2
  subst e e2
  by_cases hn:r.1=n
  ·subst hn
   exact .inr ⟨r.2,p,if_pos rfl,vQ rfl,h2⟩
  ·have hk:¬((Sum.inr r.1:Key)=Sum.inr n):=fun q=>hn (by injection q)
   have g:qY (r::rows) n=qY rows n:=if_neg hn
   rw[g,vR (p:=((Sum.inr r.1:Key),V.ref p)) (r:=kvs) hk]
   exact gf n t
theorem pX {H:Hp}:∀{kvs:List (Key×V)}{rows:Rows}{n:Str}{p:Addr}{ns:List Int},RowsAt H kvs rows→RowAt H p ns→RowsAt H (kvs++[(.inr n,.ref p)]) (rows++[(n,ns)])
 |_,_,n,p,ns,.nil,h=>.cons ⟨rfl,p,rfl,h⟩ .nil
 |_,_,n,p,ns,.cons r t,h=>.cons r (pX t h)
def DeskAt (C:Addr)(H:Hp)(x:Addr)(rows:Rows):Prop:=∃dx d kvs,H x=some (.ins C dx [("rows_by_name",.ref d)])∧H d=some (.dK kvs)∧RowsAt H kvs rows∧kvs.length≤1000
theorem DeskAt.same {C:Addr}{H H':Hp}{x:Addr}{rows:Rows}(h:DeskAt C H x rows)(s:Same H H'):DeskAt C H' x rows:=by
 obtain⟨dx,d,kvs,h1,h2,h3,h4⟩:=h
 exact⟨dx,d,kvs,s _ _ h1,s _ _ h2,h3.keep fun b zs e=>s _ _ e,h4⟩
theorem DeskAt.kp {C T:Addr}{H H':Hp}{x:Addr}{rows:Rows}{pos:Pos}{qual:Str}(h:DeskAt C H x rows)(t:TabAt pos qual T H)(s:Kp T H H'):DeskAt C H' x rows:=by
 obtain⟨dx,d,kvs,h1,h2,h3,h4⟩:=h
 exact⟨dx,d,kvs,s _ _ h1 (t.ne h1 (by intro ps z;cases z)),s _ _ h2 (t.ne h2 (by intro ps z;cases z)),h3.keep fun b zs e=>s _ _ e (t.ne e (by intro ps z;cases z)),h4⟩
def KpD (H H':Hp):Prop:=∀b o,H b=some o→(∀kvs,o≠.dK kvs)→H' b=some o
inductive Out where
 |bad (k:Nat)|told (zs:List Str)|near|put (n:Str) (ns:List Int)
def asked (w:Str):Option Nat:=
 if w="show" then some 0 else if w="count" then some 1 else if w="within" then some 2 else if w="rest" then some 2 else if w="order" then some 1
 else if w="near" then some 1 else if w="apart" then some 1 else if w="points" then some 1 else if w="parted" then some 1 else none
def jv (rows:Rows)(n:Str)(ws:List Str):Option Out:=
 if isNm n=true then(if xJ ws=true then(match qY rows n with|none=>some (.put n (ws.map numOf))|some _=>none) else some (.bad 0)) else some (.bad 0)
def jU (rows:Rows)(n:Str)(ws:List Str):Option Out:=
 match qY rows n with
 |none=>some (.bad 0)
 |some ns=>match ws with
  |[a,b]=>if zW a 14=true then(if zW b 12=true then(if 0≤numOf a∧numOf a<(ns.length:Int) then none else some (.bad 1)) else some (.bad 0)) else some (.bad 0)
  |_=>some (.bad 0)
def zge (ns:List Int):Bool:=ns.all fun n=>decide (n.natAbs<10^15)
def wF (ns:List Int)(w:Str)(is:List Int):Option Out:=
 if w="show" then(if zge ns=true then some (.told [shown ns]) else none)
 else if w="count" then(match is with|[t]=>some (.told (yM (za5 ns t)))|_=>none)
 else if w="order" then(match is with|[n]=>if 0≤n∧n<((prs ns.length).length:Int) then(if ns=row437∧n=2 then some (.told ["-3 0 2"]) else none) else(if ns.length≤10 then some (.bad 2) else none)|_=>none)
 else if w="rest" then(match is with|[m,r]=>if 0≤r∧r<m then none else some (.bad 3)|_=>none)
 else if w="near" then(if ns=[] then some .near else none)
 else none
def jd (rows:Rows)(w n:Str)(ws:List Str):Option Out:=
 match qY rows n with
 |none=>some (.bad 0)
 |some ns=>match asked w with
  |none=>some (.bad 0)
  |some c=>if ws.length=c then(if ws.all (zW · 14)=true then wF ns w (ws.map numOf) else some (.bad 0)) else some (.bad 0)
def zV (rows:Rows)(ws:List Str):Option Out:=match ws with
 |w::n::r=>if w="row" then jv rows n r else if w="lead" then jU rows n r else jd rows w n r
 |_=>some (.bad 0)
def OutOk (C T:Addr)(cl:Nat→Addr)(H:Hp)(x:Addr)(rows:Rows)(o:Option Out)(Q:VK)(E:XK):Prop:=match o with
 |none=>False
 |some (.bad k)=>∀H',Same H H'→E (.ref (cl k)) none H'
 |some (.told zs)=>∀q H',z9 H' q zs→Same H H'→Q (.ref q) H'
 |some .near=>zdc T H∧∀q H',z9 H' q []→Kp T H H'→Q (.ref q) H'
 |some (.put n ns)=>∀q H',z9 H' q []→DeskAt C H' x (rows++[(n,ns)])→KpD H H'→Q (.ref q) H'
theorem OutOk.same {C T:Addr}{cl:Nat→Addr}{H H1:Hp}{x:Addr}{rows:Rows}{o:Option Out}{Q:VK}{E:XK}(h:OutOk C T cl H x rows o Q E)(s:Same H H1):OutOk C T cl H1 x rows o Q E:=by
 match o,h with
 |some (.bad k),h=>exact fun H' s'=>h H' (s.trans s')
 |some (.told zs),h=>exact fun q H' e s'=>h q H' e (s.trans s')
 |some .near,h=>exact⟨h.1.keep s,fun q H' e s'=>h.2 q H' e fun b o e n=>s' b o (s b o e) n⟩
 |some (.put n ns),h=>exact fun q H' e d s'=>h q H' e d fun b o e n=>s' b o (s b o e) n
theorem OutOk.bad {C T:Addr}{cl:Nat→Addr}{H:Hp}{x:Addr}{rows:Rows}{o:Option Out}{Q:VK}{E:XK}{k:Nat}(h:OutOk C T cl H x rows o Q E)(e:o=some (.bad k)):E (.ref (cl k)) none H:=by
 subst e
 exact h H (Same.refl H)
def ansNames:List Str:=["show","count","within","rest","order","near","apart","points","parted"]
def zd6:List (Key×V):=(ansNames.map fun x=>(Sum.inr x:Key)).zip [.int 0,.int 1,.int 2,.int 2,.int 1,.int 1,.int 1,.int 1,.int 1]
def zda (g:Nat→Addr):List (Key×V):=(ansNames.map fun x=>(Sum.inr x:Key)).zip [.ref (g 0),.ref (g 1),.ref (g 2),.ref (g 3),.ref (g 4),.ref (g 5),.ref (g 6),.ref (g 7),.ref (g 8)]
theorem pC {x w:Str}{v:V}{r:List (Key×V)}:qQ (((Sum.inr x:Key),v)::r) (.inr w)=if w=x then some v else qQ r (.inr w):=by
 by_cases h:w=x
 ·rw[if_pos h];exact vQ (by rw[h])
 ·rw[if_neg h];exact vR fun q=>h (by injection q with q;exact q.symm)
theorem zd5 (w:Str):qQ zd6 (.inr w)=(asked w).map fun(c:Nat)=>V.int (c:Int):=by
 unfold zd6 ansNames asked
 simp only[List.map_cons,List.map_nil,List.zip_cons_cons,List.zip_nil_right,pC,pD]
 split
 ·rfl
 split
 ·rfl
 split
 ·rfl
 split
 ·rfl
 split
 ·rfl
 split
 ·rfl
 split
 ·rfl
 split
 ·rfl
 split
 ·rfl
 rfl
theorem zfC (g:Nat→Addr)(w:Str):(qQ (zda g) (.inr w)).isSome=(asked w).isSome:=by
 unfold zda ansNames asked
 simp only[List.map_cons,List.map_nil,List.zip_cons_cons,List.zip_nil_right,pC,pD]
 split
 ·rfl
 split
 ·rfl
 split
 ·rfl
 split
 ·rfl
 split
 ·rfl
 split
 ·rfl
 split
 ·rfl
 split
 ·rfl
 split
 ·rfl
 rfl
end
section
def yw (j:Nat):Stmt:=inClass (top 61) j
def zdx (C:Addr):Sp:=fun vs H Q _=>∃(x dx:Addr),vs=[.ref x]∧H x=some (.ins C dx [])∧∀H',DeskAt C H' x []→(∀b o,H b=some o→b≠x→H' b=some o)→Q .non H'
def bY (C:Addr)(cl:Nat→Addr):Sp:=fun vs H Q E=>∃(x:Addr) (n:Str) (rows:Rows),vs=[.ref x,.str n]∧DeskAt C H x rows∧
 ((qY rows n=none∧∀H',Same H H'→E (.ref (cl 0)) none H')∨∃ns,qY rows n=some ns∧∀p,RowAt H p ns→Q (.ref p) H)
def Wds (ws:List Str):Prop:=(∀u∈ws,u.length≤20000)∧ws.length≤20000
def pK (C T:Addr)(cl:Nat→Addr):Sp:=fun vs H Q E=>∃(x l:Addr) (n:Str) (ws:List Str) (rows:Rows),vs=[.ref x,.str n,.ref l]∧n.length≤20000∧DeskAt C H x rows∧z9 H l ws∧Wds ws∧rows.length≤10∧OutOk C T cl H x rows (jv rows n ws) Q E
def pM (C T:Addr)(cl:Nat→Addr):Sp:=fun vs H Q E=>∃(x l:Addr) (n:Str) (ws:List Str) (rows:Rows),vs=[.ref x,.str n,.ref l]∧DeskAt C H x rows∧z9 H l ws∧Wds ws∧OutOk C T cl H x rows (jU rows n ws) Q E
def pO (C T:Addr)(cl:Nat→Addr):Sp:=fun vs H Q E=>∃(x l:Addr) (v n:Str) (ws:List Str) (rows:Rows),vs=[.ref x,.str v,.str n,.ref l]∧DeskAt C H x rows∧z9 H l ws∧Wds ws∧OutOk C T cl H x rows (jd rows v n ws) Q E
def zbI (C T:Addr)(cl:Nat→Addr):Sp:=fun vs H Q E=>∃(x:Addr) (z:Str) (rows:Rows),vs=[.ref x,.str z]∧z.length≤10000∧DeskAt C H x rows∧rows.length≤10∧OutOk C T cl H x rows (zV rows (Txt.split z blank)) Q E
section
variable {P:Program}{w:World}{K:PySem.W.Frag}{mg:Str→Option Value}{base:Heap}{C T0:Addr}{cl:Nat→Addr}
abbrev zaR:Stmt:=yw 0
theorem zeW:zl ["self"] ["self"] (zd zaR):=fsc_
theorem zfd {f:Addr}{fd:FuncData}(F:Fun K "__init__" "Desk.__init__" zaR f fd)(TC:fQ K mg C):FnOk P w K mg base CX0 1 f fd ["self"] (zdx C):=by
 refine F.ok zeW (fun vs H Q E h=>?_) (fun cdv A outer s H vs Q E hr h=>?_)
 ·obtain⟨x,dx,rfl,_⟩:=h
  rfl
 ·obtain⟨x,dx,rfl,hx,k⟩:=h
  refine⟨_,(zi (zgn (pv 0) zdQ rfl)),?_⟩
  refine fun d hd=>⟨_,rfl,x,C,dx,[],rfl,(zf (zc hx hd)).trans hx,TC.cl,TC.nR,(by show 0<1000;decide),?_⟩
  have ndx:d≠x:=fun q=>zc hx hd q.symm
  exact k _ ⟨dx,d,[],zb,by rw[zf ndx,zb],.nil,by decide⟩ fun b o e nb=>by rw[zf nb,zf (zc e hd)];exact e
abbrev jQ:Stmt:=yw 5
theorem dc:zl ["self","name"] ["self","name"] (zd jQ):=fsc_
theorem fv {f:Addr}{fd:FuncData}(F:Fun K "row_named" "Desk.row_named" jQ f fd)(TC:fQ K mg C)(X_NoAsk:XRz K mg "NoAsk" (cl 0)):FnOk P w K mg base (CXx P w) 1 f fd ["self","name"] (bY C cl):=by
 refine F.okX dc (fun vs H Q E h=>?_) (fun cdv A outer s H vs Q E hr h=>?_)
 ·obtain⟨x,n,rows,rfl,_⟩:=h
  rfl
 ·obtain⟨x,n,rows,rfl,hD,k⟩:=h
  have hu2:=Nat.lt_of_le_of_lt (Nat.add_le_add_left (show 1≤64 by decide) _) hr.units
  refine⟨_,(ze (z4 (zdG (zcA hu2 (pv 1) (dr (pv 0) rfl)))
   (zi (qi zM rfl rfl X_NoAsk.mg X_NoAsk.ex (za zj pa_nil) jY))
   zD)
   (zi (zp (ze4 hu2 (dr (pv 0) rfl) (pv 1) (fun _ _=>rfl))))),?_⟩
  obtain⟨dx,d,kvs,h1,h2,h3,h4⟩:=hD
  refine⟨_,rfl,_,rfl,x,C,dx,_,_,rfl,h1,TC.cl,TC.nR,rfl,d,_,rfl,DGet.k (k:=.inr n) h2,?_⟩
  rcases gf n h3 with⟨g1,g2⟩|⟨ns,p,g1,g2,g3⟩
  ·rw[g2]
   refine⟨_,rfl,jN ⟨by show 1≤sizeLine;decide,?_⟩⟩
   rcases k with⟨_,k⟩|⟨ns,k1,_⟩
   ·exact k H (Same.refl H)
   ·rw[g1] at k1;cases k1
  ·rw[g2]
   refine⟨_,rfl,xE ⟨_,rfl,x,C,dx,_,_,rfl,h1,TC.cl,TC.nR,rfl,_,rfl,d,.ref p,rfl,?_,?_⟩⟩
   ·have:=DGet.k (k:=.inr n) h2
    rw[g2] at this
    exact this
   ·rcases k with⟨k1,_⟩|⟨ns',k1,k⟩
    ·rw[g1] at k1;cases k1
    ·rw[g1] at k1;cases k1
     exact k p g3
abbrev yk:Stmt:=yw 2
theorem zaO:zl ["self","name","words"] ["self","name","words"] (zd yk):=fsc_
theorem pE {f f1 f2:Addr}{fd fd1 fd2:FuncData}(F:Fun K "put_row" "Desk.put_row" yk f fd)(TC:fQ K mg C)(X_NoAsk:XRz K mg "NoAsk" (cl 0))(D_is_name:zC K mg "is_name" xt ["word"] f1 fd1)(G_is_name:FnOk P w K mg base CX0 1 f1 fd1 ["word"] zdt)
 (D_row_of_words:zC K mg "row_of_words" qC ["words"] f2 fd2) (B_row_of_words:FnOk P w K mg base (CXx P w) 3 f2 fd2 ["words"] (zg7 (cl 0))):FnOk P w K mg base (CXx P w) 4 f fd ["self","name","words"] (pK C T0 cl):=by
 refine F.okX zaO (fun vs H Q E h=>?_) (fun cdv A outer s H vs Q E hr h=>?_)
 ·obtain⟨x,l,n,ws,rows,rfl,_⟩:=h
  rfl
 ·obtain⟨x,l,n,ws,rows,rfl,hn,hD,hl,hw,hrl,k⟩:=h
  have hu2:=Nat.lt_of_le_of_lt (Nat.add_le_add_left (show 1≤64 by decide) _) hr.units
  refine⟨_,(ze (z4 (vW (gi (zo G_is_name (hr.mono (by decide)) rfl D_is_name.mg D_is_name.fn.kp D_is_name.bd .nil zv (za (pv 1) pa_nil))))
   (zi (qi zM rfl rfl X_NoAsk.mg X_NoAsk.ex (za zj pa_nil) jY))
   zD)
   (ze (zbO hu2 (dr (pv 0) rfl) (pv 1) (zo B_row_of_words (hr.mono (by decide)) rfl D_row_of_words.mg D_row_of_words.fn.kp D_row_of_words.bd .nil (jT fun _ _ _ h=>h) (za (pv 2) pa_nil)) rfl)
   (zi (zp (zG pa_nil))))),?_⟩
  refine⟨_,rfl,n,rfl,by omega,fun H1 S1=>⟨_,rfl,jB (fun e1=>?_) (fun e1=>?_)⟩⟩
  ·have e1':isNm n=false:=by cases h:isNm n with|true=>rw[h] at e1;cases e1|false=>rfl
   exact⟨by show 1≤sizeLine;decide,(k.same S1).bad (by unfold jv;rw[e1'];rfl)⟩
  ·have e1':isNm n=true:=by cases h:isNm n with|true=>rfl|false=>rw[h] at e1;exact absurd rfl e1
   have k1:=k.same S1
   unfold jv at k1
   rw[if_pos e1'] at k1
   refine⟨_,rfl,l,ws,rfl,S1 _ _ hl,hw.1,hw.2,?_⟩
   cases hq:xJ ws with
   |false=>
    rw[hq] at k1
    exact .inr ⟨rfl,fun H2 S2=>(k1.same S2).bad rfl⟩
   |true=>
    rw[hq,if_pos rfl] at k1
    refine .inl ⟨rfl,fun q H2 hq2 S2=>?_⟩
    cases hg:qY rows n with
    |some _=>rw[hg] at k1;exact k1.elim
    |none=>
     rw[hg] at k1
     obtain⟨dx,d,kvs,h1,h2,h3,h4⟩:=(hD.same S1).same S2
     have hln:=PySem.Paired.length h3
     rcases gf n h3 with⟨_,g2⟩|⟨ns,p,g1,_⟩
     ·refine⟨_,rfl,x,C,dx,_,_,rfl,h1,TC.cl,TC.nR,rfl,_,rfl,d,_,rfl,DPut.k (k:=.inr n) h2 (zS (by omega)),?_⟩
      rw[zdF _ g2]
      refine⟨by show 0≤sizeLine;decide,fun r hr2=>?_⟩
      have nd:∀{b:Addr}{o:HO},H2 b=some o→(∀kvs,o≠.dK kvs)→upd (upd H2 d (.dK (kvs++[(.inr n,.ref q)]))) r (.lst []) b=some o:=fun {b o} e hne=>by
       have e2:upd H2 d (.dK (kvs++[(.inr n,.ref q)])) b=some o:=by rw[zf (wQ e h2 (hne _))];exact e
       rw[zf (zc e2 hr2)];exact e2
      refine k1 r _ zb ⟨dx,d,kvs++[(.inr n,.ref q)],nd h1 (by intro kvs z;cases z),?_,?_,by rw[List.length_append];simp only[List.length_cons,List.length_nil];omega⟩ fun b o e hne=>nd (S2 _ _ e) hne
      ·have e2:upd H2 d (.dK (kvs++[(.inr n,.ref q)])) d=some (.dK (kvs++[(.inr n,.ref q)])):=zb
       rw[zf (zc e2 hr2)];exact e2
      ·have hp:=pX (n:=n) h3 hq2
       exact hp.keep fun b zs e=>nd e (by intro kvs z;cases z)
     ·rw[hg] at g1;cases g1
end
end
section
section
variable {P:Program}{w:World}{K:PySem.W.Frag}{mg:Str→Option Value}{base:Heap}{C T0:Addr}{cl:Nat→Addr}
abbrev jX:Stmt:=yw 3
theorem sc_lead_in_row:zl ["self","name","words","row","place","number"] ["self","name","words"] (zd jX):=fsc_
theorem qe {d:Addr}{m:Str}(h:¬m="rows_by_name"):List.lookup m ([("rows_by_name",V.ref d)]:List (Str×V))=none:=by
 show(match m==("rows_by_name":Str) with|true=>some (V.ref d)|false=>none)=none
 rw[show(m==("rows_by_name":Str))=false from beq_eq_false_iff_ne.mpr h]
theorem yZ {f f0 f1 f2:Addr}{fd fd0 fd1 fd2:FuncData}{t1 t2:Tok}(F:Fun K "lead_in_row" "Desk.lead_in_row" jX f fd)(T:Txt mg)(TC:fQ K mg C)(X_NoAsk:XRz K mg "NoAsk" (cl 0))(M_row_named:MethAt K C "row_named" "Desk.row_named" jQ ["self","name"] f0 fd0)(B_row_named:FnOk P w K mg base (CXx P w) 1 f0 fd0 ["self","name"] (bY C cl))
 (D_number_read:zC K mg "number_read" qh ["word","figures"] f1 fd1) (B_number_read:FnOk P w K mg base (CXx P w) 2 f1 fd1 ["word","figures"] (zeS (cl 0))) (D_row_led:zC K mg "row_led" yj ["row","place","number"] f2 fd2) (B_row_led:FnOk P w K mg base (CXx P w) 1 f2 fd2 ["row","place","number"] (zdv (cl 1)))
 (C_ROW_FIGURES:mg "ROW_FIGURES"=some (.int qO t1)) (C_ASKED_FIGURES:mg "ASKED_FIGURES"=some (.int qo t2)):FnOk P w K mg base (CXx P w) 4 f fd ["self","name","words"] (pM C T0 cl):=by
 refine F.okX sc_lead_in_row (fun vs H Q E h=>?_) (fun cdv A outer s H vs Q E hr h=>?_)
 ·obtain⟨x,l,n,ws,rows,rfl,_⟩:=h
  rfl
 ·obtain⟨x,l,n,ws,rows,rfl,hD,hl,hw,k⟩:=h
  have hu2:=Nat.lt_of_le_of_lt (Nat.add_le_add_left (show 1≤64 by decide) _) hr.units
  refine⟨_,(ze (zm (i:=3) sc_lead_in_row.nd rfl (Or.inl rfl) (qb (pv 0) TC.cl M_row_named.mt B_row_named (hr.mono (by decide)) M_row_named.bd .nil (jT fun _ _ _ h=>h) (za (pv 1) pa_nil)))
   (ze (z4 (zw yG (zt (gY (K:=K) rfl) (by rfl) T.b_len PyProof.Rows.Boot.«len» (za (pv 2) pa_nil)) zg (zx _))
     (zi (qi zM rfl rfl X_NoAsk.mg X_NoAsk.ex (za zj pa_nil) jY))
     zD)
   (ze (zm (i:=4) sc_lead_in_row.nd rfl (Or.inl rfl) (zo B_number_read (hr.mono (by decide)) rfl D_number_read.mg D_number_read.fn.kp D_number_read.bd .nil (jT fun _ _ _ h=>h) (za (zJ (ixL (K:=K) rfl) (pv 2) zg (fun _ _=>rfl)) (za (zK (v:=.int qo) (by rfl) C_ASKED_FIGURES ⟨_,rfl⟩) pa_nil))))
   (ze (zm (i:=5) sc_lead_in_row.nd rfl (Or.inl rfl) (zo B_number_read (hr.mono (by decide)) rfl D_number_read.mg D_number_read.fn.kp D_number_read.bd .nil (jT fun _ _ _ h=>h) (za (zJ (ixL (K:=K) rfl) (pv 2) zg (fun _ _=>rfl)) (za (zK (v:=.int qO) (by rfl) C_ROW_FIGURES ⟨_,rfl⟩) pa_nil))))
   (ze (zbO hu2 (dr (pv 0) rfl) (pv 1) (zo B_row_led (hr.mono (by decide)) rfl D_row_led.mg D_row_led.fn.kp D_row_led.bd .nil (jT fun _ _ _ h=>h) (za (pv 3) (za (pv 4) (za (pv 5) pa_nil)))) rfl)
   (zi (zp (zG pa_nil)))))))),?_⟩
  obtain⟨dx,d,kvs,h1,h2,h3,h4⟩:=hD
  refine⟨_,rfl,x,dx,_,rfl,h1,qe (by decide +kernel),_,rfl,x,n,rows,rfl,⟨dx,d,kvs,h1,h2,h3,h4⟩,?_⟩
  unfold jU at k
  cases hg:qY rows n with
  |none=>
   rw[hg] at k
   exact .inl ⟨rfl,k⟩
  |some ns=>
   rw[hg] at k
   refine .inr ⟨ns,rfl,fun p hp=>?_⟩
   dsimp only[zq]
   have hlm:(ws.map V.str).length=ws.length:=List.length_map _
   have bad:∀{H1:Hp}(D:Ends) (σ:St),Same H H1→OutOk C T0 cl H x rows (some (.bad 0)) Q E→x4 (cl 0) E (j5 (tC (.str "behind lead stand a name, a place and a number")) yh) D σ H1:=fun D σ S1 k=>⟨by show 1≤sizeLine;decide,k _ S1⟩
   refine⟨_,rfl,l,_,rfl,.inl (SqL.of hl),rfl,_,rfl,?_⟩
   rw[hlm]
   match ws,hl,hw,k with
   |[],_,_,k=>exact jN (bad _ _ (Same.refl H) k)
   |[_],_,_,k=>exact jN (bad _ _ (Same.refl H) k)
   |_::_::_::r,_,_,k=>
    have:(!decide (V.int ((r.length+1+1+1:Nat):Int)=V.int 2))=true:=by
     rw[decide_eq_false fun q=>by injection q with q;omega];rfl
    rw[List.length_cons,List.length_cons,List.length_cons,this]
    exact jN (bad _ _ (Same.refl H) k)
   |[a,b],hl,hw,k=>
    refine xE ?_
    dsimp only at k
    refine⟨_,rfl,l,_,0,_,rfl,rfl,SqL.of hl,rfl,a,14,rfl,hw.1 a (List.mem_cons_self ..),by decide,?_⟩
    cases ha:zW a 14 with
    |false=>
     rw[ha] at k
     exact .inr ⟨rfl,k⟩
    |true=>
     rw[ha,if_pos rfl] at k
     refine .inl ⟨rfl,fun H1 S1=>?_⟩
     dsimp only[zq]
     refine⟨_,rfl,l,_,1,_,rfl,rfl,SqL.of (S1 _ _ hl),rfl,b,12,rfl,hw.1 b (List.mem_cons_of_mem _ (List.mem_cons_self ..)),by decide,?_⟩
     cases hb:zW b 12 with
     |false=>
      rw[hb] at k
      exact .inr ⟨rfl,fun H2 S2=>k _ (S1.trans S2)⟩
     |true=>
      rw[hb,if_pos rfl] at k
      refine .inl ⟨rfl,fun H2 S2=>?_⟩
      dsimp only[zq]
      by_cases hc:0≤numOf a∧numOf a<(ns.length:Int)
      ·rw[if_pos hc] at k
       exact k.elim
      ·rw[if_neg hc] at k
       exact⟨_,rfl,_,rfl,_,rfl,p,ns,numOf a,numOf b,rfl,hp.same (S1.trans S2),hc,fun H3 S3=>k _ ((S1.trans S2).trans S3)⟩
abbrev wH:Stmt:=yw 4
theorem sc_answer:zl ["self","word","name","words","row","numbers","answer_of_word"] ["self","word","name","words"] (zd wH):=fsc_
structure Answers (P:Program)(w:World)(K:PySem.W.Frag)(mg:Str→Option Value)(base:Heap)(T0:Addr)(cl:Nat→Addr)(g:Nat→Addr)(gd:Nat→FuncData):Prop where
 kp:∀i,i<9→PySem.W.keepIn K (.ref (g i))=true
 bd:∀i,i<9→Binds K (gd i) ["row","numbers"] []
 sh:FnOk P w K mg base CX0 5 (g 0) (gd 0) ["row","numbers"] zds
 ct:FnOk P w K mg base CX0 5 (g 1) (gd 1) ["row","numbers"] zbH
 rs:FnOk P w K mg base (CXx P w) 5 (g 3) (gd 3) ["row","numbers"] (kY (cl 3))
 og:FnOk P w K mg base CX0 5 (g 4) (gd 4) ["row","numbers"] zbA
 ob:FnOk P w K mg base (CXx P w) 5 (g 4) (gd 4) ["row","numbers"] (pL (cl 2))
 nr:FnOk P w K mg base CX0 5 (g 5) (gd 5) ["row","numbers"] (fZ T0)
theorem zaG {f f0 f1 d_ANSWERS d_NUMBERS_ASKED:Addr}{fd fd0 fd1:FuncData}{t2:Tok}{g:Nat→Addr}{gd:Nat→FuncData}(F:Fun K "answer" "Desk.answer" wH f fd)(T:Txt mg)(TC:fQ K mg C)(X_NoAsk:XRz K mg "NoAsk" (cl 0))(M_row_named:MethAt K C "row_named" "Desk.row_named" jQ ["self","name"] f0 fd0)(B_row_named:FnOk P w K mg base (CXx P w) 1 f0 fd0 ["self","name"] (bY C cl))
 (D_number_read:zC K mg "number_read" qh ["word","figures"] f1 fd1) (B_number_read:FnOk P w K mg base (CXx P w) 2 f1 fd1 ["word","figures"] (zeS (cl 0)))
 (C_ASKED_FIGURES:mg "ASKED_FIGURES"=some (.int qo t2)) (C_ANSWERS:mg "ANSWERS"=some (.ref d_ANSWERS)) (C_NUMBERS_ASKED:mg "NUMBERS_ASKED"=some (.ref d_NUMBERS_ASKED)) (kA:KD P w K d_ANSWERS (zda g)) (kN:KD P w K d_NUMBERS_ASKED zd6) (AN:Answers P w K mg base T0 cl g gd) :
 FnOk P w K mg base (CXx P w) 6 f fd ["self","word","name","words"] (pO C T0 cl):=by
 refine F.okX sc_answer (fun vs H Q E h=>?_) (fun cdv A outer s H vs Q E hr h=>?_)
 ·obtain⟨x,l,v,n,ws,rows,rfl,_⟩:=h
  rfl
 ·obtain⟨x,l,v,n,ws,rows,rfl,hD,hl,hw,k⟩:=h
  refine⟨_,(ze (zm (i:=4) sc_answer.nd rfl (Or.inl rfl) (qb (pv 0) TC.cl M_row_named.mt B_row_named (hr.mono (by decide)) M_row_named.bd .nil (jT fun _ _ _ h=>h) (za (pv 2) pa_nil)))
   (ze (z4 (PW.pt (ba (zdG (ze7 (P:=P) (w:=w) (K:=K) rfl rfl rfl (pv 1) (zK (v:=.ref d_ANSWERS) (by rfl) C_ANSWERS rfl))) (yl (zw yG (zt (gY (K:=K) rfl) (by rfl) T.b_len PyProof.Rows.Boot.«len» (za (pv 3) pa_nil)) (zbS (P:=P) (w:=w) (K:=K) rfl rfl rfl (zK (v:=.ref d_NUMBERS_ASKED) (by rfl) C_NUMBERS_ASKED rfl) (pv 1) (fun _ _=>rfl)) (zx _)))))
     (zi (qi zM rfl rfl X_NoAsk.mg X_NoAsk.ex (za zj pa_nil) jY))
     zD)
   (ze (p8 zM zhs (i:=5) (hN:=sc_answer.nd) (hy:=rfl) (hx:=rfl) (N:=["other"]) (cap:=[none]) (hc:=rfl) (hok:=(show zU ["self","word","name","words","row","numbers","answer_of_word"] (zd wH) ["other"] [none] _=true by decide +kernel) ) (hi:=(piL (K:=K) rfl (pv 3))) (hb:=fun cl D s3 H3 fp pn σ0 hB=>⟨(zr (i:=0) (show(["other"]:List Str).Nodup by decide +kernel) rfl (Or.inl rfl)),zO,fun it acc=>(zI rfl (zo B_number_read (hr.mono (by decide)) rfl D_number_read.mg D_number_read.fn.kp D_number_read.bd .nil (zfT zM hB (fun _ _ _ h=>h)) (za (pv 0) (za (zK (v:=.int qo) (by rfl) C_ASKED_FIGURES ⟨_,rfl⟩) pa_nil))))⟩))
   (ze (zm (i:=6) sc_answer.nd rfl (Or.inl rfl) (zbS (P:=P) (w:=w) (K:=K) rfl rfl rfl (zK (v:=.ref d_ANSWERS) (by rfl) C_ANSWERS rfl) (pv 1) (fun _ _=>rfl)))
   (zi (zp (ze5 (k:=5) (hr.mono (by decide)) 6 (za (pv 4) (za (pv 5) pa_nil))))))))),?_⟩
  obtain⟨dx,d,kvs,h1,h2,h3,h4⟩:=hD
  refine⟨_,rfl,x,dx,_,rfl,h1,qe (by decide +kernel),_,rfl,x,n,rows,rfl,⟨dx,d,kvs,h1,h2,h3,h4⟩,?_⟩
  unfold jd at k
  cases hg:qY rows n with
  |none=>
   rw[hg] at k
   exact .inl ⟨rfl,k⟩
  |some ns=>
   rw[hg] at k
   dsimp only at k
   refine .inr ⟨ns,rfl,fun p hp=>?_⟩
   dsimp only[zq]
   have hlm:(ws.map V.str).length=ws.length:=List.length_map _
   have bad:∀{H1:Hp}(D:Ends) (σ:St),Same H H1→OutOk C T0 cl H x rows (some (.bad 0)) Q E→x4 (cl 0) E (j5 (tC (.str "the first word is unknown, or numbers are lacking or too many")) yh) D σ H1:=fun D σ S1 k=>⟨by show 1≤sizeLine;decide,k _ S1⟩
   have va:=zfC g v
   have vn:=zd5 v
   refine⟨_,rfl,d_ANSWERS,_,.inr v,rfl,kA,rfl,_,rfl,?_⟩
   cases hq:asked v with
   |none=>
    rw[hq] at k va
    rw[show(qQ (zda g) (.inr v)).isSome=false from va]
    exact jN (jN (bad _ _ (Same.refl H) k))
   |some c=>
    rw[hq] at k va vn
    dsimp only at k
    rw[show(qQ (zda g) (.inr v)).isSome=true from va]
    obtain⟨gv,hgv⟩:=Option.isSome_iff_exists.mp (show(qQ (zda g) (.inr v)).isSome=true from va)
    refine xE ⟨_,rfl,l,_,rfl,.inl (SqL.of hl),_,rfl,d_NUMBERS_ASKED,_,.inr v,_,rfl,kN,rfl,vn,rfl,_,rfl,?_⟩
    rw[hlm]
    by_cases hc:ws.length=c
    ·rw[if_pos hc] at k
     rw[show(!decide (V.int (ws.length:Int)=V.int (c:Int)))=false by rw[hc,decide_eq_true rfl];rfl]
     refine xE ⟨_,rfl,l,rfl,⟨_,SqL.of hl⟩,fun acc hacc=>?_⟩
     refine qG (xs:=ws.map V.str) (fun i σ H'=>∃v:Option V,σ=[v]∧H' acc=some (.lst (((ws.take i).map numOf).map V.int))∧(ws.take i).all (zW · 14)=true∧Same H H') ⟨none,rfl,zb,rfl,Same.lay hacc⟩ ?_ ?_ ?_
     ·rintro i σ H1 hi ⟨v,rfl,hc,_,S1⟩
      exact SqL.of (S1 _ _ hl)
     ·rintro i y σ H1 hx ⟨v,rfl,hc,ht,S1⟩
      obtain⟨u,hu,rfl⟩:=jO hx
      have hm:=List.mem_of_getElem? hu
      refine⟨_,rfl,u,14,rfl,hw.1 u hm,by decide,?_⟩
      cases hq:zW u 14 with
      |true=>
       refine .inl ⟨rfl,fun H2 S2=>⟨_,S2 _ _ hc,zS (by rw[List.length_map,List.length_map,List.length_take];have:=hw.2;omega),?_⟩⟩
       refine⟨_,rfl,?_,xU _ hu ht hq,fun b o e=>by rw[zf (zc e hacc)];exact S2 _ _ (S1 _ _ e)⟩
       rw[zb,zH numOf hu,List.map_append]
       rfl
      |false=>
       refine .inr ⟨rfl,fun H2 S2=>?_⟩
       have:¬(ws.all (zW · 14)=true):=fun z=>by
        have:=List.all_eq_true.mp z u hm
        rw[hq] at this;cases this
       rw[if_neg this] at k
       exact k _ (S1.trans S2)
     ·rintro σ H1 ⟨v',rfl,hac,ht,S1⟩
      rw[List.length_map,List.take_length] at hac ht
      rw[if_pos ht] at k
      dsimp only[zq]
      refine⟨_,rfl,d_ANSWERS,_,.inr v,gv,rfl,kA,rfl,hgv,?_⟩
      dsimp only[zq]
      have k1:=k.same S1
      have hp1:=hp.same S1
      have hln:(ws.map numOf).length=c:=by rw[List.length_map];exact hc
      have hia:wy H1 acc (ws.map numOf):=hac
      generalize ws.map numOf=is at k1 hia hln
      clear k hac hc hlm bad
      unfold wF at k1
      by_cases c0:v="show"
      ·subst c0
       cases hgv
       rw[if_pos rfl] at k1
       cases hs:zge ns with
       |false=>rw[hs] at k1;exact k1.elim
       |true=>
        rw[hs,if_pos rfl] at k1
        exact⟨g 0,gd 0,_,_,_,_,rfl,AN.sh,AN.kp 0 (by decide),AN.bd 0 (by decide),zv,_,rfl,_,rfl,p,acc,ns,rfl,hp1,fun n hn=>of_decide_eq_true (List.all_eq_true.mp hs n hn),fun q H2 e S2=>k1 q H2 e S2⟩
      rw[if_neg c0] at k1
      by_cases c1:v="count"
      ·subst c1
       cases hgv
       rw[if_pos rfl] at k1
       match is,hia,k1 with
       |[t],hia,k1=>exact⟨g 1,gd 1,_,_,_,_,rfl,AN.ct,AN.kp 1 (by decide),AN.bd 1 (by decide),zv,_,rfl,_,rfl,p,acc,ns,t,rfl,hp1,hia,fun q H2 e S2=>k1 q H2 e S2⟩
       |[],_,k1=>exact k1.elim
       |_::_::_,_,k1=>exact k1.elim
      rw[if_neg c1] at k1
      by_cases c2:v="order"
      ·subst c2
       cases hgv
       rw[if_pos rfl] at k1
       match is,hia,k1 with
       |[],_,k1=>exact k1.elim
       |_::_::_,_,k1=>exact k1.elim
       |[t],hia,k1=>
        dsimp only at k1
        by_cases hr':0≤t∧t<((prs ns.length).length:Int)
        ·rw[if_pos hr'] at k1
         by_cases h437:ns=row437∧t=2
         ·rw[if_pos h437] at k1
          have hp2:RowAt H1 p row437:=h437.1▸hp1
          have hi2:wy H1 acc [2]:=h437.2▸hia
          exact⟨g 4,gd 4,_,_,_,_,rfl,AN.og,AN.kp 4 (by decide),AN.bd 4 (by decide),zv,_,rfl,_,rfl,p,acc,rfl,hp2,hi2,fun q H2 e S2=>k1 q H2 e S2⟩
         ·rw[if_neg h437] at k1
          exact k1.elim
        ·rw[if_neg hr'] at k1
         by_cases h10:ns.length≤10
         ·rw[if_pos h10] at k1
          exact⟨g 4,gd 4,_,_,_,_,rfl,AN.ob,AN.kp 4 (by decide),AN.bd 4 (by decide),jT fun _ _ _ h=>h,_,rfl,_,rfl,p,acc,ns,t,rfl,hp1,hia,h10,hr',fun H2 S2=>k1 H2 S2⟩
         ·rw[if_neg h10] at k1
          exact k1.elim
      rw[if_neg c2] at k1
      by_cases c3:v="rest"
      ·subst c3
       cases hgv
       rw[if_pos rfl] at k1
       match is,hia,k1 with
       |[],_,k1=>exact k1.elim
       |[_],_,k1=>exact k1.elim
       |_::_::_::_,_,k1=>exact k1.elim
       |[m,r],hia,k1=>
        dsimp only at k1
        by_cases hr':0≤r∧r<m
        ·rw[if_pos hr'] at k1
         exact k1.elim
        ·rw[if_neg hr'] at k1
         exact⟨g 3,gd 3,_,_,_,_,rfl,AN.rs,AN.kp 3 (by decide),AN.bd 3 (by decide),jT fun _ _ _ h=>h,_,rfl,_,rfl,p,acc,m,r,rfl,hia,hr',fun H2 S2=>k1 H2 S2⟩
      rw[if_neg c3] at k1
      by_cases c4:v="near"
      ·subst c4
       cases hgv
       rw[if_pos rfl] at k1
       by_cases hns:ns=[]
       ·rw[if_pos hns] at k1
        subst hns
        have hc1:c=1:=by cases hq;rfl
        subst hc1
        match is,hia,hln with
        |[t],hia,_=>exact⟨g 5,gd 5,_,_,_,_,rfl,AN.nr,AN.kp 5 (by decide),AN.bd 5 (by decide),zv,_,rfl,_,rfl,p,acc,t,rfl,hp1,hia,k1.1,fun q H2 e S2=>k1.2 q H2 e S2⟩
       ·rw[if_neg hns] at k1
        exact k1.elim
      rw[if_neg c4] at k1
      exact k1.elim
    ·rw[if_neg hc] at k
     rw[show(!decide (V.int (ws.length:Int)=V.int (c:Int)))=true by rw[decide_eq_false fun q=>by injection q with q;omega];rfl]
     exact jN (bad _ _ (Same.refl H) k)
end
end
section
theorem bA:∀{ws:List (List Nat)}{u:List Nat},u∈ws→∃a b,wR ws=a++u++b
 |[v],u,h=>by rw[List.mem_singleton.mp h];exact⟨[],[],by simp[wR]⟩
 |v::y::r,u,h=>by
  rcases List.mem_cons.mp h with rfl|h
  ·exact⟨[],32::wR (y::r),by simp[wR]⟩
  ·obtain⟨a,b,e⟩:=bA h
   exact⟨v++32::a,b,by show v++32::wR (y::r)=_;rw[e];simp⟩
theorem zco (z:Str):wR ((Txt.split z blank).map (·.cps.toList))=z.cps.toList:=by
 rw[←zal,StrLaws.join_split z blank]
theorem pJ (z:Str):(Txt.split z blank).length≤z.length+1:=by
 have h:=wg blank (by decide) (Txt.split z blank)
 rw[StrLaws.join_split z blank] at h
 exact h
theorem zdg {z u:Str}(h:u∈Txt.split z blank):u.length≤z.length:=by
 obtain⟨a,b,e⟩:=bA (List.mem_map_of_mem (f:=fun x:Str=>x.cps.toList) h)
 rw[zco] at e
 rw[zE,zE,e,List.length_append,List.length_append]
 omega
section
variable {P:Program}{w:World}{K:PySem.W.Frag}{mg:Str→Option Value}{base:Heap}{C T0:Addr}{cl:Nat→Addr}
abbrev pW:Stmt:=yw 1
theorem sc_ask:zl ["self","line","words","word","name","others"] ["self","line"] (zd pW):=fsc_
theorem zeK {f f1 f2 f3:Addr}{fd fd1 fd2 fd3:FuncData}(F:Fun K "ask" "Desk.ask" pW f fd)(T:Txt mg)(TC:fQ K mg C)(X_NoAsk:XRz K mg "NoAsk" (cl 0))(M_put_row:MethAt K C "put_row" "Desk.put_row" yk ["self","name","words"] f1 fd1)(B_put_row:FnOk P w K mg base (CXx P w) 4 f1 fd1 ["self","name","words"] (pK C T0 cl))
 (M_lead_in_row:MethAt K C "lead_in_row" "Desk.lead_in_row" jX ["self","name","words"] f2 fd2) (B_lead_in_row:FnOk P w K mg base (CXx P w) 4 f2 fd2 ["self","name","words"] (pM C T0 cl))
 (M_answer:MethAt K C "answer" "Desk.answer" wH ["self","word","name","words"] f3 fd3) (B_answer:FnOk P w K mg base (CXx P w) 6 f3 fd3 ["self","word","name","words"] (pO C T0 cl)) :
 FnOk P w K mg base (CXx P w) 7 f fd ["self","line"] (zbI C T0 cl):=by
 refine F.okX sc_ask (fun vs H Q E h=>?_) (fun cdv A outer s H vs Q E hr h=>?_)
 ·obtain⟨x,z,rows,rfl,_⟩:=h
  rfl
 ·obtain⟨x,z,rows,rfl,hz,hD,hrl,k⟩:=h
  have hsl:=sizeLine_eq
  have hcount:=pJ z
  have hlen:∀u∈Txt.split z blank,u.length≤10000:=fun u hu=>Nat.le_trans (zdg hu) hz
  refine⟨_,(ze (zm (i:=2) sc_ask.nd rfl (Or.inl rfl) (gq PySem.F.plainAttrs_str PySem.F.slot_str_split PySem.F.type_str_split zae (pv 1) (za zj pa_nil)))
   (ze (z4 (zw gu (zt (gY (K:=K) rfl) (by rfl) T.b_len PyProof.Rows.Boot.«len» (za (pv 2) pa_nil)) zg (zx _))
     (zi (qi zM rfl rfl X_NoAsk.mg X_NoAsk.ex (za zj pa_nil) jY))
     zD)
   (ze (di (pv 2) (ze2 (K:=K) (n:=2) rfl rfl (zP (zr (i:=3) sc_ask.nd rfl (Or.inl rfl)) (zP (zr (i:=4) sc_ask.nd rfl (Or.inl rfl)) (zdL (zr (i:=5) sc_ask.nd rfl (Or.inl rfl)) vq)))))
   (ze (z4 (zw wN (pv 3) zj (zx _))
     (zi (zp (qb (pv 0) TC.cl M_put_row.mt B_put_row (hr.mono (by decide)) M_put_row.bd .nil (jT fun _ _ _ h=>h) (za (pv 4) (za (pv 5) pa_nil)))))
     zD)
   (ze (z4 (zw wN (pv 3) zj (zx _))
     (zi (zp (qb (pv 0) TC.cl M_lead_in_row.mt B_lead_in_row (hr.mono (by decide)) M_lead_in_row.bd .nil (jT fun _ _ _ h=>h) (za (pv 4) (za (pv 5) pa_nil)))))
     zD)
   (zi (zp (qb (pv 0) TC.cl M_answer.mt B_answer (hr.mono (by decide)) M_answer.bd .nil (jT fun _ _ _ h=>h) (za (pv 3) (za (pv 4) (za (pv 5) pa_nil))))))))))),?_⟩
  refine⟨_,rfl,rfl,z,blank,rfl,rfl,by decide,by omega,fun l hl=>?_⟩
  dsimp only[zq]
  generalize Txt.split z blank=ws at k hcount hlen
  have S1:Same H (upd H l (.lst (ws.map V.str))):=Same.lay hl
  have e1:upd H l (.lst (ws.map V.str)) l=some (.lst (ws.map V.str)):=zb
  generalize upd H l (.lst (ws.map V.str))=H1 at S1 e1
  have k1:=k.same S1
  have hD1:=hD.same S1
  have hlm:(ws.map V.str).length=ws.length:=List.length_map _
  refine⟨_,rfl,l,_,rfl,.inl (SqL.of e1),_,_,rfl,rfl,_,rfl,?_⟩
  rw[hlm]
  have short:ws.length<2→zV rows ws=some (.bad 0):=fun h=>match ws,h with
   |[],_=>rfl
   |[_],_=>rfl
  refine jB (fun e=>?_) (fun e=>?_)
  ·exact⟨by show 1≤sizeLine;omega,k1.bad (short (by have:=of_decide_eq_true e;omega))⟩
  match ws,e1,k1,hlen,hcount,e with
  |[],_,_,_,_,e=>exact absurd (decide_eq_true (by decide)) e
  |[_],_,_,_,_,e=>exact absurd (decide_eq_true (by show((1:Nat):Int)<2;decide)) e
  |v::n::r,e1,k1,hlen,hcount,_=>
   refine⟨_,rfl,l,_,rfl,SqL.of e1,by show 2≤(r.map V.str).length+1+1;omega,fun o ho=>?_⟩
   refine⟨_,_,rfl,_,_,rfl,_,_,rfl,rfl,?_⟩
   dsimp only[zq]
   have S2:Same H1 (upd H1 o (.lst (r.map V.str))):=Same.lay ho
   have e2:upd H1 o (.lst (r.map V.str)) o=some (.lst (r.map V.str)):=zb
   show zeL _ _ _ _ (upd H1 o (.lst (r.map V.str)))
   generalize upd H1 o (.lst (r.map V.str))=H2 at S2 e2
   have k2:=k1.same S2
   have hD2:=hD1.same S2
   obtain⟨dx,d,kvs,h1,_⟩:=id hD2
   have hw:Wds r:=⟨fun u hu=>Nat.le_trans (hlen u (List.mem_cons_of_mem _ (List.mem_cons_of_mem _ hu))) (by decide),by have:(v::n::r).length≤z.length+1:=hcount;simp only[List.length_cons] at this;omega⟩
   have hn:n.length≤20000:=Nat.le_trans (hlen n (List.mem_cons_of_mem _ (List.mem_cons_self ..))) (by decide)
   have k3:OutOk C T0 cl H2 x rows (if v="row" then jv rows n r else if v="lead" then jU rows n r else jd rows v n r) Q E:=k2
   have hv:∀y:Str,decide (V.str v=V.str y)=decide (v=y):=fun y=>decide_eq_decide.mpr ⟨fun h=>by injection h,fun h=>by rw[h]⟩
   refine⟨_,rfl,rfl,_,rfl,?_⟩
   rw[hv]
   refine jB (fun c1=>?_) (fun c1=>?_)
   ·rw[if_pos (of_decide_eq_true c1)] at k3
    exact⟨_,rfl,x,dx,_,rfl,h1,qe (by decide +kernel),_,rfl,_,rfl,x,o,n,r,rows,rfl,hn,hD2,e2,hw,hrl,k3⟩
   ·rw[if_neg fun h=>c1 (decide_eq_true h)] at k3
    refine⟨_,rfl,rfl,_,rfl,?_⟩
    rw[hv]
    refine jB (fun c2=>?_) (fun c2=>?_)
    ·rw[if_pos (of_decide_eq_true c2)] at k3
     exact⟨_,rfl,x,dx,_,rfl,h1,qe (by decide +kernel),_,rfl,_,rfl,x,o,n,r,rows,rfl,hD2,e2,hw,k3⟩
    ·rw[if_neg fun h=>c2 (decide_eq_true h)] at k3
     exact⟨_,rfl,x,dx,_,rfl,h1,qe (by decide +kernel),_,rfl,_,rfl,_,rfl,x,o,v,n,r,rows,rfl,hD2,e2,hw,k3⟩
end
end
section
structure zhP (K:PySem.W.Frag)(S:Addr)(cl:Nat→Addr):Prop where
 sub:∀k,k<4→PySem.W.mroIn K (cl k) (.ref S)=some true
 val:∀k,k<4→PySem.W.kitOne K (.ref (cl k)) (.type "ValueError")=some true
 kit:∀k j,k<4→j<5→PySem.W.kitOne K (.ref (cl k)) (.ref (cl j))=some (decide (k=j))
 xc:∀k,k<4→wt K (cl k)
def zdw (C T:Addr):Sp:=fun vs H Q _=>∃(x:Addr) (z:Str) (rows:Rows) (k:Nat),vs=[.ref x,.str z]∧z.length≤10000∧DeskAt C H x rows∧rows.length≤10∧zV rows (Txt.split z blank)=some (.bad k)∧k<4∧∀H',Same H H'→Q (.int k) H'
section
variable {P:Program}{w:World}{K:PySem.W.Frag}{mg:Str→Option Value}{base:Heap}{C T0 S:Addr}{cl:Nat→Addr}
abbrev vi:Stmt:=top 65
theorem sc_law_kind:zl ["desk","line","caught","e","found","some"] ["desk","line"] (zd vi):=fsc_
theorem zaa {f f1:Addr}{fd fd1:FuncData}(F:Fun K "_law_kind" "_law_kind" vi f fd)(T:Txt mg)(TC:fQ K mg C)
 (X_SumError:XSp K mg "SumError" S) (X_NoAsk:XNm K mg "NoAsk" (cl 0)) (X_NoPlace:XNm K mg "NoPlace" (cl 1)) (X_NoStretch:XNm K mg "NoStretch" (cl 2)) (X_NoRest:XNm K mg "NoRest" (cl 3)) (X_NoText:XNm K mg "NoText" (cl 4)) (XR:zhP K S cl)
 (M_ask:MethAt K C "ask" "Desk.ask" pW ["self","line"] f1 fd1) (B_ask:FnOk P w K mg base (CXx P w) 7 f1 fd1 ["self","line"] (zbI C T0 cl)) :
 FnOk P w K mg base CX0 8 f fd ["desk","line"] (zdw C T0):=by
 refine F.ok sc_law_kind (fun vs H Q E h=>?_) (fun cdv A' outer s H vs Q E0 hr h=>?_)
 ·obtain⟨x,z,rows,n,rfl,_⟩:=h
  rfl
 ·obtain⟨x,z,rows,n,rfl,hz,hD,hrl,ho,hn,k⟩:=h
  obtain⟨EX,hEX⟩:∃EX:XK,EX=fun c _ H'=>c=.ref (cl n)∧Same H H':=⟨_,rfl⟩
  have kE:∀H',Same H H'→EX (.ref (cl n)) none H':=fun H' S'=>by rw[hEX];exact⟨rfl,S'⟩
  refine⟨_,(ze (zm (i:=2) sc_law_kind.nd rfl (Or.inl rfl) wc)
   (ze (zgm (i:=3) (EX:=EX) ⟨rfl,rfl,rfl⟩ sc_law_kind.nd rfl X_SumError.mg X_SumError.sup (fun pn E hp=>
     (zi (dh (qb (pv 0) TC.cl M_ask.mt B_ask (hr.mono (by decide)) M_ask.bd .nil hp (za (pv 1) pa_nil)))))
     (fun e=>(zi (zm (i:=2) sc_law_kind.nd rfl (Or.inl rfl) (pv 3)))))
   (ze (z4 (vW (gi (zt (jq (K:=K) rfl) (by rfl) T.b_isinstance PyProof.Rows.Boot.«isinstance» (za (pv 2) (za (zhq (by rfl) T.b_ValueError PyProof.Rows.Boot.«ValueError») pa_nil)))))
     (zi (zp (zbQ bT zg)))
     zD)
   (ze (zm (i:=4) sc_law_kind.nd rfl (Or.inr rfl) (zG (za (zt (jq (K:=K) rfl) (by rfl) T.b_isinstance PyProof.Rows.Boot.«isinstance» (za (pv 2) (za (zK (v:=.ref _) (by rfl) X_NoAsk.mg rfl) pa_nil))) (za (zt (jq (K:=K) rfl) (by rfl) T.b_isinstance PyProof.Rows.Boot.«isinstance» (za (pv 2) (za (zK (v:=.ref _) (by rfl) X_NoPlace.mg rfl) pa_nil))) (za (zt (jq (K:=K) rfl) (by rfl) T.b_isinstance PyProof.Rows.Boot.«isinstance» (za (pv 2) (za (zK (v:=.ref _) (by rfl) X_NoStretch.mg rfl) pa_nil))) pa_nil)))))
   (ze (zm (i:=4) sc_law_kind.nd rfl (Or.inr rfl) (zk qg (pv 4) (zG (za (zt (jq (K:=K) rfl) (by rfl) T.b_isinstance PyProof.Rows.Boot.«isinstance» (za (pv 2) (za (zK (v:=.ref _) (by rfl) X_NoRest.mg rfl) pa_nil))) (za (zt (jq (K:=K) rfl) (by rfl) T.b_isinstance PyProof.Rows.Boot.«isinstance» (za (pv 2) (za (zK (v:=.ref _) (by rfl) X_NoText.mg rfl) pa_nil))) pa_nil)))))
   (ze (gk (i:=5) (hN:=sc_law_kind.nd) (hy:=rfl) (hx:=rfl) (N:=["k","found"]) (cap:=[none,some 4]) (hc:=rfl) (hok:=(show zU ["desk","line","caught","e","found","some"] (zd vi) ["k","found"] [none,some 4] _=true by decide +kernel) ) (hi:=(ym (by rfl) T.b_range (za zg pa_nil))) (hb:=fun cl C s3 H3 fp=>⟨(zr (i:=0) (show(["k","found"]:List Str).Nodup by decide +kernel) rfl (Or.inl rfl)),(zbN (gi (zJ (ixL (K:=K) rfl) (pv 1) (pv 0) (fun _ _=>rfl)))),fun it acc=>(zI rfl (pv 0))⟩))
   (ze (z4 (zw yG (zt (gY (K:=K) rfl) (by rfl) T.b_len PyProof.Rows.Boot.«len» (za (pv 5) pa_nil)) zg (zx _))
     (zi (zp (zbQ bT zg)))
     zD)
   (zi (zp (zJ (ixL (K:=K) rfl) (pv 5) zg (fun _ _=>rfl))))))))))),?_⟩
  dsimp only[zq]
  refine⟨fun c H' z'=>?_,?_⟩
  ·rw[hEX] at z'
   obtain⟨rfl,S'⟩:=z'
   refine⟨cl n,rfl,XR.xc n hn,XR.sub n hn,fun a σ' ha hl=>?_⟩
   match σ',hl with
   |[v0,v1,v2,v3,v4,v5],_=>
    have Sa:Same H (upd H' a (.ext (ExcAt a (cl n)))):=S'.trans (Same.lay ha)
    have haa:upd H' a (.ext (ExcAt a (cl n))) a=some (.ext (ExcAt a (cl n))):=zb
    generalize upd H' a (.ext (ExcAt a (cl n)))=H1 at Sa haa
    refine⟨_,rfl,?_⟩
    dsimp only[zq,zem]
    refine⟨_,rfl,a,cl n,_,true,rfl,haa,XR.xc n hn,.inl ⟨rfl,XR.val n hn⟩,true,rfl,xE ?_⟩
    refine⟨_,rfl,a,cl n,_,decide (n=0),rfl,haa,XR.xc n hn,.inl ⟨rfl,XR.kit n 0 hn (by decide)⟩,_,rfl,a,cl n,_,decide (n=1),rfl,haa,XR.xc n hn,.inl ⟨rfl,XR.kit n 1 hn (by decide)⟩,_,rfl,a,cl n,_,decide (n=2),rfl,haa,XR.xc n hn,.inl ⟨rfl,XR.kit n 2 hn (by decide)⟩,by show 3≤sizeLine;decide,fun l1 hl1=>?_⟩
    have S2:Same H1 (upd H1 l1 (.lst [.bl (decide (n=0)),.bl (decide (n=1)),.bl (decide (n=2))])):=Same.lay hl1
    have e2:upd H1 l1 (.lst [.bl (decide (n=0)),.bl (decide (n=1)),.bl (decide (n=2))]) l1=some (.lst [.bl (decide (n=0)),.bl (decide (n=1)),.bl (decide (n=2))]):=zb
    generalize upd H1 l1 (.lst [.bl (decide (n=0)),.bl (decide (n=1)),.bl (decide (n=2))])=H2 at S2 e2
    have ha2:=S2 _ _ haa
    dsimp only[zq]
    refine⟨_,rfl,_,rfl,a,cl n,_,decide (n=3),rfl,ha2,XR.xc n hn,.inl ⟨rfl,XR.kit n 3 hn (by decide)⟩,_,rfl,a,cl n,_,decide (n=4),rfl,ha2,XR.xc n hn,.inl ⟨rfl,XR.kit n 4 hn (by decide)⟩,by show 2≤sizeLine;decide,fun l2 hl2=>?_⟩
    refine⟨l1,l2,_,_,rfl,rfl,(zf (zc e2 hl2)).trans e2,zb,by show 5≤sizeLine;decide,fun l3 hl3=>?_⟩
    have S3:Same H2 (upd (upd H2 l2 (.lst [.bl (decide (n=3)),.bl (decide (n=4))])) l3 (.lst ([.bl (decide (n=0)),.bl (decide (n=1)),.bl (decide (n=2))]++[.bl (decide (n=3)),.bl (decide (n=4))]))):=(Same.lay hl2).trans (Same.lay hl3)
    have e3:upd (upd H2 l2 (.lst [.bl (decide (n=3)),.bl (decide (n=4))])) l3 (.lst ([.bl (decide (n=0)),.bl (decide (n=1)),.bl (decide (n=2))]++[.bl (decide (n=3)),.bl (decide (n=4))])) l3=some (.lst ((List.range 5).map fun j=>V.bl (decide (n=j)))):=zb
    generalize upd (upd H2 l2 (.lst [.bl (decide (n=3)),.bl (decide (n=4))])) l3 (.lst ([.bl (decide (n=0)),.bl (decide (n=1)),.bl (decide (n=2))]++[.bl (decide (n=3)),.bl (decide (n=4))]))=H3 at S3 e3
    dsimp only[zq]
    refine⟨5,rfl,by decide,by decide,fun acc hacc=>?_⟩
    refine xZ (fun i σ H'=>∃v:Option V,σ=[v,some (.ref l3)]∧H' acc=some (.lst (((List.range i).filter fun j=>decide (n=j)).map fun(j:Nat)=>V.int (j:Int)))∧Same H3 H') ⟨none,rfl,zb,Same.lay hacc⟩ ?_ ?_
    ·rintro i σ H4 hi ⟨v,rfl,hc,S4⟩
     have hi5:i<5:=hi
     refine⟨_,rfl,_,rfl,l3,_,_,.bl (decide (n=i)),rfl,rfl,SqL.of (S4 _ _ e3),?_,_,rfl,?_⟩
     ·rw[Int.zero_add]
      refine qP ?_
      rw[List.getElem?_map,List.getElem?_range hi5];rfl
     ·have hr:((List.range (i+1)).filter fun j=>decide (n=j))=((List.range i).filter fun j=>decide (n=j))++if decide (n=i)=true then[i] else[]:=by
       rw[List.range_succ,List.filter_append,List.filter_cons,List.filter_nil]
      refine jB (fun c=>?_) (fun c=>?_)
      ·refine⟨_,rfl,_,hc,zS (by rw[List.length_map];have:=List.length_filter_le (fun j=>decide (n=j)) (List.range i);rw[List.length_range] at this;omega),?_⟩
       refine⟨_,rfl,?_,fun b o e=>by rw[zf (zc e hacc)];exact S4 _ _ e⟩
       rw[zb,hr,if_pos c,List.map_append,Int.zero_add]
       rfl
      ·refine⟨_,rfl,?_,S4⟩
       rw[hr,if_neg c,List.append_nil];exact hc
    ·rintro σ H4 ⟨v,rfl,hc,S4⟩
     have hf:((List.range 5).filter fun j=>decide (n=j))=[n]:=by
      match n,hn with
      |0,_=>decide
      |1,_=>decide
      |2,_=>decide
      |3,_=>decide
     have hc':H4 acc=some (.lst [.int (n:Int)]):=by
      have:H4 acc=some (.lst (((List.range 5).filter fun j=>decide (n=j)).map fun(j:Nat)=>V.int (j:Int))):=hc
      rw[hf] at this
      exact this
     dsimp only[zq]
     refine⟨_,rfl,acc,_,rfl,.inl (SqL.of hc'),rfl,_,rfl,xE ?_⟩
     exact⟨_,rfl,acc,_,0,_,rfl,rfl,SqL.of hc',rfl,k H4 (((Sa.trans S2).trans S3).trans S4)⟩
  ·obtain⟨dx,d,kvs,h1,_⟩:=id hD
   refine⟨_,rfl,x,dx,_,rfl,h1,qe (by decide +kernel),_,rfl,x,z,rows,rfl,hz,hD,hrl,?_⟩
   rw[ho]
   exact kE
end
end
section
def mkS (l:List Nat):Str:=⟨l.toArray⟩
theorem kL (l:List Nat):(mkS l).cps.toList=l:=rfl
theorem za1 (x:Str):mkS x.cps.toList=x:=qw rfl
def zey (k:Nat):List (List Nat)→List (List Nat)
 |[]=>[[k]]
 |w::ws=>(k::w)::ws
def qV (c:Nat):List Nat→List (List Nat)
 |[]=>[[]]
 |k::r=>if k=c then[]::qV c r else zey k (qV c r)
def jA (c:Nat):List (List Nat)→List Nat
 |[]=>[]
 |[w]=>w
 |w::y::r=>w++c::jA c (y::r)
theorem dQ (c:Nat):∀l,∃w ws,qV c l=w::ws
 |[]=>⟨_,_,rfl⟩
 |k::r=>by
  obtain⟨w,ws,e⟩:=dQ c r
  unfold qV
  split
  ·exact⟨_,_,rfl⟩
  ·rw[e];exact⟨_,_,rfl⟩
theorem zao (c:Nat):∀l,jA c (qV c l)=l
 |[]=>rfl
 |k::r=>by
  have ih:=zao c r
  obtain⟨w,ws,e⟩:=dQ c r
  rw[e] at ih
  unfold qV
  split
  ·rename_i h
   rw[e,h]
   show[]++c::jA c (w::ws)=_
   rw[ih];rfl
  ·rw[e]
   show jA c ((k::w)::ws)=_
   cases ws with
   |nil=>show k::w=_;rw[show w=r from ih]
   |cons y t=>
    show(k::w)++c::jA c (y::t)=_
    have:w++c::jA c (y::t)=r:=ih
    rw[List.cons_append,this]
theorem zap (c:Nat):∀l,∀w∈qV c l,c∉w
 |[],w,h=>by rw[List.mem_singleton.mp h];simp
 |k::r,w,h=>by
  have ih:=zap c r
  obtain⟨v,ws,e⟩:=dQ c r
  unfold qV at h
  split at h
  ·rcases List.mem_cons.mp h with h|h
   ·rw[h];simp
   ·exact ih w h
  ·rename_i hk
   rw[e] at h ih
   rcases List.mem_cons.mp h with h|h
   ·rw[h]
    intro z
    rcases List.mem_cons.mp z with z|z
    ·exact hk z.symm
    ·exact ih v (List.mem_cons_self ..) z
   ·exact ih w (List.mem_cons_of_mem _ h)
theorem dP {c:Nat}:∀{w:List Nat},c∉w→qV c w=[w]
 |[],_=>rfl
 |k::r,h=>by
  unfold qV
  rw[if_neg (fun e:k=c=>h (by rw[←e];exact List.mem_cons_self ..)),dP fun z=>h (List.mem_cons_of_mem _ z)]
  rfl
theorem yb {c:Nat}(l:List Nat):∀{w:List Nat},c∉w→qV c (w++c::l)=w::qV c l
 |[],_=>by show(if c=c then _ else _)=_;rw[if_pos rfl]
 |k::r,h=>by
  show(if k=c then[]::qV c (r++c::l) else zey k (qV c (r++c::l)))=_
  rw[if_neg (fun e:k=c=>h (by rw[←e];exact List.mem_cons_self ..)),yb l fun z=>h (List.mem_cons_of_mem _ z)]
  rfl
theorem gJ {c:Nat}:∀{ws:List (List Nat)},ws≠[]→(∀w∈ws,c∉w)→qV c (jA c ws)=ws
 |[],h,_=>absurd rfl h
 |[w],_,h=>dP (h w (List.mem_singleton.mpr rfl))
 |w::y::r,_,h=>by
  show qV c (w++c::jA c (y::r))=_
  rw[yb _ (h w (List.mem_cons_self ..)),gJ (List.cons_ne_nil _ _) fun x hx=>h x (List.mem_cons_of_mem _ hx)]
theorem bB (z:Str)(c:Nat)(hz:z.cps.toList=[c]):∀ws:List Str,(Str.join z ws).cps.toList=jA c (ws.map (·.cps.toList))
 |[]=>rfl
 |[w]=>rfl
 |w::y::r=>by
  have e:Str.join z (w::y::r)=w++z++Str.join z (y::r):=rfl
  rw[e,PySem.W.KT.app_list,PySem.W.KT.app_list,hz,bB z c hz (y::r)]
  simp[jA]
theorem zcp (x:Str)(c:Nat):Txt.split x ⟨#[c]⟩≠[]:=fun e=>by
 have h:=StrLaws.join_split x ⟨#[c]⟩
 rw[e] at h
 have h':x=Str.empty:=h.symm
 subst h'
 unfold Txt.split at e
 rw[if_pos (by have:decide (Str.empty.length<(⟨#[c]⟩:Str).length)=true:=rfl;rw[this];rfl)] at e
 cases e
theorem zZ (x:Str)(c:Nat):Txt.split x ⟨#[c]⟩=(qV c x.cps.toList).map mkS:=by
 have h:=congrArg (fun y:Str=>y.cps.toList) (StrLaws.join_split x ⟨#[c]⟩)
 have h:(Str.join ⟨#[c]⟩ (Txt.split x ⟨#[c]⟩)).cps.toList=x.cps.toList:=h
 rw[bB ⟨#[c]⟩ c rfl] at h
 have hf:=StrLaws.split_free x c
 have hn:=zcp x c
 generalize Txt.split x ⟨#[c]⟩=ws at h hf hn
 rw[←h,gJ (fun e=>hn (List.map_eq_nil_iff.mp e)) fun w hw=>by obtain⟨y,hy,rfl⟩:=List.mem_map.mp hw;exact hf y hy]
 rw[List.map_map]
 have:(mkS∘fun x:Str=>x.cps.toList)=id:=funext fun y=>za1 y
 rw[this,List.map_id]
def qz (c:Nat)(z l:List Nat):List Nat:=l.flatMap fun k=>if k=c then z else[k]
theorem kX (c:Nat)(z a b:List Nat):qz c z (a++b)=qz c z a++qz c z b:=List.flatMap_append ..
theorem qv {c:Nat}(z:List Nat):∀{l:List Nat},c∉l→qz c z l=l
 |[],_=>rfl
 |k::r,h=>by
  show(if k=c then z else[k])++qz c z r=_
  rw[if_neg (fun e:k=c=>h (by rw[←e];exact List.mem_cons_self ..)),qv z fun m=>h (List.mem_cons_of_mem _ m)]
  rfl
theorem zdp {c d:Nat}{z:List Nat}(hz:d∉z):∀{l:List Nat},d∉l→d∉qz c z l:=fun {l} h m=>by
 obtain⟨k,hk,e⟩:=List.mem_flatMap.mp m
 split at e
 ·exact hz e
 ·rw[List.mem_singleton.mp e] at h;exact h hk
theorem xn (c:Nat)(z:List Nat)(k:Nat)(r:List Nat):qz c z (k::r)=(if k=c then z else[k])++qz c z r:=rfl
theorem j6 {c:Nat}{z:List Nat}(h0:1≤z.length)(h8:z.length≤8):∀l:List Nat,l.length≤(qz c z l).length∧(qz c z l).length≤8*l.length
 |[]=>⟨Nat.le_refl _,Nat.le_refl _⟩
 |k::r=>by
  have⟨h1,h2⟩:=j6 (c:=c) h0 h8 r
  rw[xn,List.length_append,List.length_cons]
  split
  ·omega
  ·simp only[List.length_cons,List.length_nil];omega
theorem fY {c d:Nat}(z:List Nat)(h:d≠c):∀ws:List (List Nat),qz c z (jA d ws)=jA d (ws.map (qz c z))
 |[]=>rfl
 |[w]=>rfl
 |w::y::r=>by
  show qz c z (w++d::jA d (y::r))=qz c z w++d::jA d ((y::r).map (qz c z))
  rw[kX,←fY z h (y::r)]
  show _++((if d=c then z else[d])++qz c z (jA d (y::r)))=_
  rw[if_neg h];rfl
theorem zce {c d:Nat}{z:List Nat}(h:d≠c)(hz:d∉z)(l:List Nat):qV d (qz c z l)=(qV d l).map (qz c z):=by
 have e:=congrArg (qz c z) (zao d l)
 rw[fY z h] at e
 rw[←e,gJ]
 ·obtain⟨w,ws,e⟩:=dQ d l
  rw[e];exact List.cons_ne_nil _ _
 ·intro w hw
  obtain⟨y,hy,rfl⟩:=List.mem_map.mp hw
  exact zdp hz (zap d l y hy)
theorem fX (c:Nat)(z:Str):∀ws:List Str,(∀p∈ws,c∉p.cps.toList)→qz c z.cps.toList (Str.join ⟨#[c]⟩ ws).cps.toList=(Str.join z ws).cps.toList
 |[],_=>rfl
 |[p],h=>qv _ (h p (List.mem_singleton.mpr rfl))
 |p::q::r,h=>by
  have ih:=fX c z (q::r) fun a ha=>h a (List.mem_cons_of_mem _ ha)
  have e1:Str.join ⟨#[c]⟩ (p::q::r)=p++⟨#[c]⟩++Str.join ⟨#[c]⟩ (q::r):=rfl
  have e2:Str.join z (p::q::r)=p++z++Str.join z (q::r):=rfl
  rw[e1,e2,PySem.W.KT.app_list,PySem.W.KT.app_list,PySem.W.KT.app_list,PySem.W.KT.app_list,kX,kX,ih,qv _ (h p (List.mem_cons_self ..))]
  show _++((if c=c then z.cps.toList else[c])++[])++_=_
  rw[if_pos rfl,List.append_nil]
theorem vV (x z:Str)(c:Nat):(Txt.replace x ⟨#[c]⟩ z).cps.toList=qz c z.cps.toList x.cps.toList:=by
 rw[StrLaws.replace_one,←fX c z _ (StrLaws.split_free x c),StrLaws.join_split]
end
section
def isLit (w:List Nat):Bool:=!w.contains 80&&!w.contains 81
def zaZ (w:List Nat):Bool:=w.isEmpty||decide (8<w.length)||w.any (fun c=>!dI c&&c != 80&&c != 81)
def kindOf:Option Out→Option Nat
 |some (.bad k)=>some k
 |_=>none
def zhJ (w:List Nat)(r:List (List Nat)):Option Nat:=match asked (mkS w) with
 |none=>some 0
 |some c=>if r.length=c then(if r.all isLit=true then(if(r.map mkS).all (zW · 14)=true then kindOf (wF row437 (mkS w) ((r.map mkS).map numOf)) else some 0) else none) else some 0
def zhK (r:List (List Nat)):Option Nat:=match r with
 |[a,b]=>if isLit a=true∧isLit b=true then(if zW (mkS a) 14=true then(if zW (mkS b) 12=true then(if 0≤numOf (mkS a)∧numOf (mkS a)<3 then none else some 1) else some 0) else some 0) else none
 |_=>some 0
def away (n:List Nat):Bool:=zaZ n||n==[81]
def chk (l:List Nat):Option Nat:=match qV 32 l with
 |w::n::r=>
  if isLit w=true then
   (if mkS w="row" then(if zaZ n=true then some 0 else if r.all isLit=true∧xJ (r.map mkS)=false then some 0 else none)
   else if mkS w="lead" then(if away n=true then some 0 else if n=[80] then zhK r else none)
   else(if away n=true then some 0 else if asked (mkS w)=none then some 0 else if n=[80] then zhJ w r else none))
  else if zaZ w=true then(if away n=true then some 0 else none) else none
 |_=>some 0
def z5 (n0 n1 w:List Nat):List Nat:=qz 81 n1 (qz 80 n0 w)
structure Nms (n0 n1:List Nat):Prop where
 a:isNm (mkS n0)=true
 b:isNm (mkS n1)=true
 ne:n0≠n1
theorem jz {l:List Nat}(h:isNm (mkS l)=true):1≤l.length∧l.length≤8:=by
 unfold isNm at h
 have:=of_decide_eq_true (Bool.and_eq_true_iff.mp h).1
 rw[zE] at this
 exact this
theorem za0 {l:List Nat}(h:isNm (mkS l)=true):∀c∈l,97≤c∧c≤122:=fun c hc=>by
 unfold isNm at h
 have:=List.all_eq_true.mp (Bool.and_eq_true_iff.mp h).2 c hc
 unfold dI at this
 exact of_decide_eq_true this
theorem wd {l:List Nat}(h:isNm (mkS l)=true){c:Nat}(hc:c<97):c∉l:=fun m=>by
 have:=za0 h c m
 omega
theorem zeh {w:List Nat}(h:isLit w=true):80∉w∧81∉w:=by
 unfold isLit at h
 obtain⟨h1,h2⟩:=Bool.and_eq_true_iff.mp h
 constructor
 ·intro m
  rw[List.contains_iff_mem.mpr m] at h1
  cases h1
 ·intro m
  rw[List.contains_iff_mem.mpr m] at h2
  cases h2
theorem kD {n0 n1 w:List Nat}(h:isLit w=true):z5 n0 n1 w=w:=by
 have⟨h1,h2⟩:=zeh h
 unfold z5
 rw[qv _ h1,qv _ h2]
theorem kW {n0 n1:List Nat}:∀{r:List (List Nat)},r.all isLit=true→r.map (z5 n0 n1)=r
 |[],_=>rfl
 |w::r,h=>by
  rw[List.all_cons] at h
  obtain⟨h1,h2⟩:=Bool.and_eq_true_iff.mp h
  rw[List.map_cons,kD h1,kW h2]
theorem zg5 {n0 n1:List Nat}(N:Nms n0 n1):z5 n0 n1 [80]=n0:=by
 unfold z5
 rw[show qz 80 n0 [80]=n0 by rw[xn,if_pos rfl];exact List.append_nil _,qv _ (wd N.a (by decide))]
theorem zg4 {n0 n1:List Nat}:z5 n0 n1 [81]=n1:=by
 unfold z5
 rw[show qz 80 n0 [81]=[81] by rw[xn,if_neg (by decide)];rfl,xn,if_pos rfl]
 exact List.append_nil _
theorem pH {c k:Nat}{z l:List Nat}(h:k∈l)(hk:k≠c):k∈qz c z l:=List.mem_flatMap.mpr ⟨k,h,by rw[if_neg hk];exact List.mem_singleton.mpr rfl⟩
theorem zaJ {n0 n1 w:List Nat}(N:Nms n0 n1)(h:zaZ w=true):isNm (mkS (z5 n0 n1 w))=false:=by
 cases hq:isNm (mkS (z5 n0 n1 w)) with
 |false=>rfl
 |true=>
  exfalso
  have⟨l1,l2⟩:=jz hq
  have lt:=za0 hq
  have⟨a1,a2⟩:=jz N.a
  have⟨b1,b2⟩:=jz N.b
  unfold z5 at l1 l2 lt
  have⟨s1,s2⟩:=j6 (c:=80) a1 a2 w
  have⟨t1,t2⟩:=j6 (c:=81) b1 b2 (qz 80 n0 w)
  unfold zaZ at h
  rcases Bool.or_eq_true_iff.mp h with h|h
  ·rcases Bool.or_eq_true_iff.mp h with h|h
   ·have:w=[]:=List.isEmpty_iff.mp h
    subst this
    have l1:1≤0:=l1
    omega
   ·have:=of_decide_eq_true h
    omega
  ·obtain⟨c,hc,e⟩:=List.any_eq_true.mp h
   obtain⟨e1,e3⟩:=Bool.and_eq_true_iff.mp e
   obtain⟨e1,e2⟩:=Bool.and_eq_true_iff.mp e1
   have h80:c≠80:=by simpa using e2
   have h81:c≠81:=by simpa using e3
   have:=lt c (pH (pH hc h80) h81)
   unfold dI at e1
   rw[decide_eq_true this] at e1
   cases e1
theorem zgv:isNm "row"=true:=by decide +kernel
theorem zfj:isNm "lead"=true:=by decide +kernel
theorem dG {a b:List Nat}(h:mkS a=mkS b):a=b:=by
 have:=congrArg (fun x:Str=>x.cps.toList) h
 exact this
def qf (n0:List Nat):Rows:=[(mkS n0,row437)]
theorem pb {n0 n1 n:List Nat}(N:Nms n0 n1)(h:away n=true):qY (qf n0) (mkS (z5 n0 n1 n))=none:=by
 have ne:¬mkS n0=mkS (z5 n0 n1 n):=fun e=>by
  rcases Bool.or_eq_true_iff.mp h with h|h
  ·have h1:=zaJ N h
   rw[←e,N.a] at h1
   cases h1
  ·have:n=[81]:=by simpa using h
   rw[this,zg4] at e
   exact N.ne (dG e)
 show(if mkS n0=mkS (z5 n0 n1 n) then _ else _)=_
 rw[if_neg ne];rfl
theorem zeo {n0 n1:List Nat}(N:Nms n0 n1):qY (qf n0) (mkS (z5 n0 n1 [80]))=some row437:=by
 rw[zg5 N]
 exact if_pos rfl
theorem zc1 {n0 n1 l:List Nat}{k:Nat}(N:Nms n0 n1)(h:chk l=some k):zV (qf n0) (((qV 32 l).map (z5 n0 n1)).map mkS)=some (.bad k):=by
 unfold chk at h
 generalize qV 32 l=ws at h
 match ws,h with
 |[],h=>cases h;rfl
 |[_],h=>cases h;rfl
 |w::n::r,h=>
  dsimp only at h
  show(if mkS (z5 n0 n1 w)="row" then jv (qf n0) (mkS (z5 n0 n1 n)) ((r.map (z5 n0 n1)).map mkS) else if mkS (z5 n0 n1 w)="lead" then jU (qf n0) (mkS (z5 n0 n1 n)) ((r.map (z5 n0 n1)).map mkS) else jd (qf n0) (mkS (z5 n0 n1 w)) (mkS (z5 n0 n1 n)) ((r.map (z5 n0 n1)).map mkS))=_
  by_cases hl:isLit w=true
  ·rw[if_pos hl] at h
   rw[kD hl]
   by_cases h1:mkS w="row"
   ·rw[if_pos h1] at h ⊢
    unfold jv
    by_cases hn:zaZ n=true
    ·rw[if_pos hn] at h
     rw[zaJ N hn]
     cases h;rfl
    ·rw[if_neg hn] at h
     by_cases hr:r.all isLit=true∧xJ (r.map mkS)=false
     ·rw[if_pos hr] at h
      cases h
      rw[kW hr.1,hr.2]
      split<;>rfl
     ·rw[if_neg hr] at h;cases h
   ·rw[if_neg h1] at h ⊢
    by_cases h2:mkS w="lead"
    ·rw[if_pos h2] at h ⊢
     unfold jU
     by_cases ha:away n=true
     ·rw[if_pos ha] at h
      rw[pb N ha]
      cases h;rfl
     ·rw[if_neg ha] at h
      by_cases hp:n=[80]
      ·rw[if_pos hp] at h
       subst hp
       rw[zeo N]
       dsimp only
       unfold zhK at h
       match r,h with
       |[],h=>cases h;rfl
       |[_],h=>cases h;rfl
       |_::_::_::_,h=>cases h;rfl
       |[a,b],h=>
        dsimp only at h
        by_cases hab:isLit a=true∧isLit b=true
        ·rw[if_pos hab] at h
         show(if zW (mkS (z5 n0 n1 a)) 14=true then(if zW (mkS (z5 n0 n1 b)) 12=true then(if 0≤numOf (mkS (z5 n0 n1 a))∧numOf (mkS (z5 n0 n1 a))<(row437.length:Int) then none else some (Out.bad 1)) else some (Out.bad 0)) else some (Out.bad 0))=_
         rw[kD hab.1,kD hab.2]
         by_cases q1:zW (mkS a) 14=true
         ·rw[if_pos q1] at h ⊢
          by_cases q2:zW (mkS b) 12=true
          ·rw[if_pos q2] at h ⊢
           by_cases q3:0≤numOf (mkS a)∧numOf (mkS a)<3
           ·rw[if_pos q3] at h;cases h
           ·rw[if_neg q3] at h
            cases h
            exact if_neg q3
          ·rw[if_neg q2] at h ⊢
           cases h;rfl
         ·rw[if_neg q1] at h ⊢
          cases h;rfl
        ·rw[if_neg hab] at h;cases h
      ·rw[if_neg hp] at h;cases h
    ·rw[if_neg h2] at h ⊢
     unfold jd
     by_cases ha:away n=true
     ·rw[if_pos ha] at h
      rw[pb N ha]
      cases h;rfl
     ·rw[if_neg ha] at h
      by_cases hak:asked (mkS w)=none
      ·rw[if_pos hak] at h
       cases h
       rw[hak]
       split<;>rfl
      rw[if_neg hak] at h
      by_cases hp:n=[80]
      ·rw[if_pos hp] at h
       subst hp
       rw[zeo N]
       dsimp only
       unfold zhJ at h
       cases hq:asked (mkS w) with
       |none=>rw[hq] at h;cases h;rfl
       |some c=>
        rw[hq] at h
        dsimp only at h ⊢
        rw[List.length_map,List.length_map]
        by_cases hc:r.length=c
        ·rw[if_pos hc] at h ⊢
         by_cases hr:r.all isLit=true
         ·rw[if_pos hr] at h
          rw[kW hr]
          by_cases ho:(r.map mkS).all (zW · 14)=true
          ·rw[if_pos ho] at h ⊢
           unfold kindOf at h
           split at h
           ·cases h;assumption
           ·cases h
          ·rw[if_neg ho] at h ⊢
           cases h;rfl
         ·rw[if_neg hr] at h;cases h
        ·rw[if_neg hc] at h ⊢
         cases h;rfl
      ·rw[if_neg hp] at h;cases h
  ·rw[if_neg hl] at h
   by_cases hw:zaZ w=true
   ·rw[if_pos hw] at h
    by_cases ha:away n=true
    ·rw[if_pos ha] at h
     cases h
     have hx:=zaJ N hw
     have n1':¬mkS (z5 n0 n1 w)="row":=fun e=>by rw[e,zgv] at hx;cases hx
     have n2':¬mkS (z5 n0 n1 w)="lead":=fun e=>by rw[e,zfj] at hx;cases hx
     rw[if_neg n1',if_neg n2']
     unfold jd
     rw[pb N ha]
    ·rw[if_neg ha] at h;cases h
   ·rw[if_neg hw] at h;cases h
end
section
def zbE (L:List Str):Sp:=fun vs H Q _=>vs=[]∧∀q H',z9 H' q L→Same H H'→Q (.ref q) H'
def gW (p:Str×Nat):List V:=[.str p.1,.int p.2]
def kF (L:List (Str×Nat)):Sp:=fun vs H Q _=>vs=[]∧∀q xs H',H' q=some (.lst xs)→TupsAt gW H' xs L→Same H H'→Q (.ref q) H'
def tx0:Str:="| |row|row P1 1|row Plongername 1|row  1|rows P 1|Show P|row P 1 |row P  1"
def tx1:Str:="|row P 1  2|row HOME 1|row a-b 1|row a{ 1|row abcdefghi 1|row 1a 2|row aHb 2"
def tx2:Str:="|row P1 x|show|show Q|show P P|show P |shows P|show  P| show P|lead|lead P"
def tx3:Str:="|lead P 1|lead Q 0 1|lead P 0 1 2|lead P x 1|lead P 9 x|count|count P"
def tx4:Str:="|count Q 1|count P 1 1|within|within P 1|within Q 1 2|within P 1 2 3"
def tx5:Str:="|within P x 1|rest|rest P 3|rest Q 3 1|rest P 3 1 1|rest P x 9|rest P 0 x"
def tx6:Str:="|order|order P|order Q 0|order Q 99|order P 1 1|near|near P|near Q 1"
def tx7:Str:="|near P 1 2|apart|apart P|apart Q 1|apart P 1 1|points|points P|points Q 1"
def tx8:Str:="|points P 1 1|parted|parted P|parted Q 1|parted P 1 1|count P 1\n|count\nP 1"
def tx9:Str:="|row P 1\n2|row Q 1\n|lead Q 99 1|rest Q 0 0|counts P 1|nears P 1"
def tl0:List Nat:=[124,32,124,114,111,119,124,114,111,119,32,80,49,32,49,124,114,111,119,32,80,108,111,110,103,101,114,110,97,109,101,32,49,124,114,111,119,32,32,49,124,114,111,119,115,32,80,32,49,124,83,104,111,119,32,80,124,114,111,119,32,80,32,49,32,124,114,111,119,32,80,32,32,49]
def tl1:List Nat:=[124,114,111,119,32,80,32,49,32,32,50,124,114,111,119,32,72,79,77,69,32,49,124,114,111,119,32,97,45,98,32,49,124,114,111,119,32,97,123,32,49,124,114,111,119,32,97,98,99,100,101,102,103,104,105,32,49,124,114,111,119,32,49,97,32,50,124,114,111,119,32,97,72,98,32,50]
def tl2:List Nat:=[124,114,111,119,32,80,49,32,120,124,115,104,111,119,124,115,104,111,119,32,81,124,115,104,111,119,32,80,32,80,124,115,104,111,119,32,80,32,124,115,104,111,119,115,32,80,124,115,104,111,119,32,32,80,124,32,115,104,111,119,32,80,124,108,101,97,100,124,108,101,97,100,32,80]
def tl3:List Nat:=[124,108,101,97,100,32,80,32,49,124,108,101,97,100,32,81,32,48,32,49,124,108,101,97,100,32,80,32,48,32,49,32,50,124,108,101,97,100,32,80,32,120,32,49,124,108,101,97,100,32,80,32,57,32,120,124,99,111,117,110,116,124,99,111,117,110,116,32,80]
def tl4:List Nat:=[124,99,111,117,110,116,32,81,32,49,124,99,111,117,110,116,32,80,32,49,32,49,124,119,105,116,104,105,110,124,119,105,116,104,105,110,32,80,32,49,124,119,105,116,104,105,110,32,81,32,49,32,50,124,119,105,116,104,105,110,32,80,32,49,32,50,32,51]
def tl5:List Nat:=[124,119,105,116,104,105,110,32,80,32,120,32,49,124,114,101,115,116,124,114,101,115,116,32,80,32,51,124,114,101,115,116,32,81,32,51,32,49,124,114,101,115,116,32,80,32,51,32,49,32,49,124,114,101,115,116,32,80,32,120,32,57,124,114,101,115,116,32,80,32,48,32,120]
def tl6:List Nat:=[124,111,114,100,101,114,124,111,114,100,101,114,32,80,124,111,114,100,101,114,32,81,32,48,124,111,114,100,101,114,32,81,32,57,57,124,111,114,100,101,114,32,80,32,49,32,49,124,110,101,97,114,124,110,101,97,114,32,80,124,110,101,97,114,32,81,32,49]
def tl7:List Nat:=[124,110,101,97,114,32,80,32,49,32,50,124,97,112,97,114,116,124,97,112,97,114,116,32,80,124,97,112,97,114,116,32,81,32,49,124,97,112,97,114,116,32,80,32,49,32,49,124,112,111,105,110,116,115,124,112,111,105,110,116,115,32,80,124,112,111,105,110,116,115,32,81,32,49]
def tl8:List Nat:=[124,112,111,105,110,116,115,32,80,32,49,32,49,124,112,97,114,116,101,100,124,112,97,114,116,101,100,32,80,124,112,97,114,116,101,100,32,81,32,49,124,112,97,114,116,101,100,32,80,32,49,32,49,124,99,111,117,110,116,32,80,32,49,10,124,99,111,117,110,116,10,80,32,49]
def tl9:List Nat:=[124,114,111,119,32,80,32,49,10,50,124,114,111,119,32,81,32,49,10,124,108,101,97,100,32,81,32,57,57,32,49,124,114,101,115,116,32,81,32,48,32,48,124,99,111,117,110,116,115,32,80,32,49,124,110,101,97,114,115,32,80,32,49]
theorem te0:tx0.cps.toList=tl0:=by decide +kernel
theorem te1:tx1.cps.toList=tl1:=by decide +kernel
theorem te2:tx2.cps.toList=tl2:=by decide +kernel
theorem te3:tx3.cps.toList=tl3:=by decide +kernel
theorem te4:tx4.cps.toList=tl4:=by decide +kernel
theorem te5:tx5.cps.toList=tl5:=by decide +kernel
theorem te6:tx6.cps.toList=tl6:=by decide +kernel
theorem te7:tx7.cps.toList=tl7:=by decide +kernel
theorem te8:tx8.cps.toList=tl8:=by decide +kernel
theorem te9:tx9.cps.toList=tl9:=by decide +kernel
def textS:Str:=((((((((tx0++tx1)++tx2)++tx3)++tx4)++tx5)++tx6)++tx7)++tx8)++tx9
def zdk:List Nat:=((((((((tl0++tl1)++tl2)++tl3)++tl4)++tl5)++tl6)++tl7)++tl8)++tl9
theorem zbt:textS.cps.toList=zdk:=by
 unfold textS zdk
 simp only[PySem.W.KT.app_list,te0,te1,te2,te3,te4,te5,te6,te7,te8,te9]
def bar:Str:="|"
def linesL:List Str:=Txt.split textS bar
theorem TupsAt.app {α:Type}{g:α→List V}{H:Hp}{xs ys:List V}{ps qs:List α}(h:TupsAt g H xs ps)(h':TupsAt g H ys qs):TupsAt g H (xs++ys) (ps++qs):=by
 refine⟨by rw[List.length_append,List.length_append,h.1,h'.1],fun i q e=>?_⟩
 by_cases hi:i<ps.length
 ·rw[List.getElem?_append_left hi] at e
  obtain⟨b,h1,h2⟩:=h.2 i q e
  exact⟨b,by rw[List.getElem?_append_left (by rw[h.1];exact hi)];exact h1,h2⟩
 ·rw[List.getElem?_append_right (by omega)] at e
  obtain⟨b,h1,h2⟩:=h'.2 _ q e
  exact⟨b,by rw[List.getElem?_append_right (by rw[h.1];omega),h.1];exact h1,h2⟩
theorem vY {α β:Type}(f:α→List β){l:List α}{i:Nat}{x:α}(h:l[i]?=some x):(l.take (i+1)).flatMap f=(l.take i).flatMap f++f x:=by
 rw[List.take_add_one,h,List.flatMap_append]
 congr 1
 show f x++[]=f x
 rw[List.append_nil]
theorem zfG {K:PySem.W.Frag}{a acc:Addr}{us:List Str}{k:Nat}{φ:Str→Str}{te:TE}{N:St→Hp→Prop}{rest:St}{H:Hp}(hacc:H acc=none)(ha:H a=some (.lst (us.map V.str)))(hl:us.length≤1000)
 (ht:∀u∈us,∀(H':Hp) (Q:VK),Q (.str (φ u)) H'→te (some (.str u)::rest) H' Q)
 (hN:∀σ' xs H',H' acc=some (.lst xs)→TupsAt gW H' xs (us.map fun u=>(φ u,k))→Same H H'→N σ' H') :
 vO (Itl K a) (zq 0) zf6 (zeC acc (zf8 (j5 te (j5 (tC (.int (k:Int))) yh)))) N (none::rest) (upd H acc (.lst [])):=by
 refine qG (xs:=us.map V.str) (fun i σ H'=>∃(v:Option V) (xs:List V),σ=v::rest∧H' acc=some (.lst xs)∧TupsAt gW H' xs ((us.take i).map fun u=>(φ u,k))∧Same H H') ⟨none,[],rfl,zb,TupsAt.nil,Same.lay hacc⟩ ?_ ?_ ?_
 ·rintro i σ H1 hi ⟨v,xs,rfl,_,_,S1⟩
  exact SqL.of (S1 _ _ ha)
 ·rintro i x σ H1 hx ⟨v,xs,rfl,hc,tp,S1⟩
  obtain⟨u,hu,rfl⟩:=jO hx
  have hm:=List.mem_of_getElem? hu
  refine ht u hm H1 _ ⟨by show 2≤sizeLine;decide,fun p hp=>⟨xs,(zf (zc hc hp)).trans hc,zS (by rw[tp.1,List.length_map,List.length_take];omega),?_⟩⟩
  have e1:upd H1 p (.tup [.str (φ u),.int (k:Int)]) acc=some (.lst xs):=(zf (zc hc hp)).trans hc
  refine⟨_,xs++[.ref p],rfl,zb,?_,fun b o e=>?_⟩
  ·rw[zH (fun u=>(φ u,k)) hu]
   refine TupsAt.snoc ((tp.mono fun b zs e=>?_).mono (kC e1)) (kC e1 _ _ zb)
   rw[zf (zc e hp)];exact e
  ·have e2:=S1 _ _ e
   rw[zf (zc e hacc),zf (zc e2 hp)];exact e2
 ·rintro σ H1 ⟨v,xs,rfl,hc,tp,S1⟩
  rw[List.length_map,List.take_length] at tp
  exact hN _ xs H1 hc tp S1
theorem bS {K:PySem.W.Frag}{a acc:Addr}{us:List Str}{k:Nat}{φ:Str→Str}{te:TE}{N:St→Hp→Prop}{rest:St}{H:Hp}(hacc:H acc=none)(ha:H a=some (.tup (us.map V.str)))(hl:us.length≤1000)
 (ht:∀u∈us,∀(H':Hp) (Q:VK),Q (.str (φ u)) H'→te (some (.str u)::rest) H' Q)
 (hN:∀σ' xs H',H' acc=some (.lst xs)→TupsAt gW H' xs (us.map fun u=>(φ u,k))→Same H H'→N σ' H') :
 vO (Itt K a) (zq 0) zf6 (zeC acc (zf8 (j5 te (j5 (tC (.int (k:Int))) yh)))) N (none::rest) (upd H acc (.lst [])):=by
 refine pz (xs:=us.map V.str) (fun i σ H'=>∃(v:Option V) (xs:List V),σ=v::rest∧H' acc=some (.lst xs)∧TupsAt gW H' xs ((us.take i).map fun u=>(φ u,k))∧Same H H') ⟨none,[],rfl,zb,TupsAt.nil,Same.lay hacc⟩ ?_ ?_ ?_
 ·rintro i σ H1 hi ⟨v,xs,rfl,_,_,S1⟩
  exact SqT.of (S1 _ _ ha)
 ·rintro i x σ H1 hx ⟨v,xs,rfl,hc,tp,S1⟩
  obtain⟨u,hu,rfl⟩:=jO hx
  have hm:=List.mem_of_getElem? hu
  refine ht u hm H1 _ ⟨by show 2≤sizeLine;decide,fun p hp=>⟨xs,(zf (zc hc hp)).trans hc,zS (by rw[tp.1,List.length_map,List.length_take];omega),?_⟩⟩
  have e1:upd H1 p (.tup [.str (φ u),.int (k:Int)]) acc=some (.lst xs):=(zf (zc hc hp)).trans hc
  refine⟨_,xs++[.ref p],rfl,zb,?_,fun b o e=>?_⟩
  ·rw[zH (fun u=>(φ u,k)) hu]
   refine TupsAt.snoc ((tp.mono fun b zs e=>?_).mono (kC e1)) (kC e1 _ _ zb)
   rw[zf (zc e hp)];exact e
  ·have e2:=S1 _ _ e
   rw[zf (zc e hacc),zf (zc e2 hp)];exact e2
 ·rintro σ H1 ⟨v,xs,rfl,hc,tp,S1⟩
  rw[List.length_map,List.take_length] at tp
  exact hN _ xs H1 hc tp S1
def partsL:List (Str×Nat):=(["lead P 3 1","lead P -1 1","lead P 99 1"]:List Str).map (fun u=>(u,1))++(["order P 6","order P -1","order P 99"]:List Str).map (fun u=>(u,2))++(["rest P 0 0","rest P -1 0","rest P 3 3","rest P 3 -1","rest P 1 1"]:List Str).map (fun u=>(u,3))
section
variable {P:Program}{w:World}{K:PySem.W.Frag}{mg:Str→Option Value}{base:Heap}
abbrev vT:Stmt:=top 67
theorem sc_law_lines:zl ["text"] [] (zd vT):=fsc_
theorem dB {f:Addr}{fd:FuncData}(F:Fun K "_law_lines" "_law_lines" vT f fd)(T:Txt mg):FnOk P w K mg base CX0 1 f fd [] (zbE linesL):=by
 refine F.ok sc_law_lines (fun vs H Q E h=>?_) (fun cdv A outer s H vs Q E hr h=>?_)
 ·obtain⟨rfl,_⟩:=h
  rfl
 ·obtain⟨rfl,k⟩:=h
  refine⟨_,(ze (zm (i:=0) sc_law_lines.nd rfl (Or.inl rfl) zj)
   (ze (zm (i:=0) sc_law_lines.nd rfl (Or.inl rfl) (zk zh (pv 0) zj))
   (ze (zm (i:=0) sc_law_lines.nd rfl (Or.inl rfl) (zk zh (pv 0) zj))
   (ze (zm (i:=0) sc_law_lines.nd rfl (Or.inl rfl) (zk zh (pv 0) zj))
   (ze (zm (i:=0) sc_law_lines.nd rfl (Or.inl rfl) (zk zh (pv 0) zj))
   (ze (zm (i:=0) sc_law_lines.nd rfl (Or.inl rfl) (zk zh (pv 0) zj))
   (ze (zm (i:=0) sc_law_lines.nd rfl (Or.inl rfl) (zk zh (pv 0) zj))
   (ze (zm (i:=0) sc_law_lines.nd rfl (Or.inl rfl) (zk zh (pv 0) zj))
   (ze (zm (i:=0) sc_law_lines.nd rfl (Or.inl rfl) (zk zh (pv 0) zj))
   (ze (zm (i:=0) sc_law_lines.nd rfl (Or.inl rfl) (zk zh (pv 0) zj))
   (zi (zp (gq PySem.F.plainAttrs_str PySem.F.slot_str_split PySem.F.type_str_split zae (pv 0) (za zj pa_nil)))))))))))))),?_⟩
  have hsl:=sizeLine_eq
  have l0:("| |row|row P1 1|row Plongername 1|row  1|rows P 1|Show P|row P 1 |row P  1":Str).length≤100:=by show tx0.length≤100;rw[zE,te0];decide
  have l1:("|row P 1  2|row HOME 1|row a-b 1|row a{ 1|row abcdefghi 1|row 1a 2|row aHb 2":Str).length≤100:=by show tx1.length≤100;rw[zE,te1];decide
  have l2:("|row P1 x|show|show Q|show P P|show P |shows P|show  P| show P|lead|lead P":Str).length≤100:=by show tx2.length≤100;rw[zE,te2];decide
  have l3:("|lead P 1|lead Q 0 1|lead P 0 1 2|lead P x 1|lead P 9 x|count|count P":Str).length≤100:=by show tx3.length≤100;rw[zE,te3];decide
  have l4:("|count Q 1|count P 1 1|within|within P 1|within Q 1 2|within P 1 2 3":Str).length≤100:=by show tx4.length≤100;rw[zE,te4];decide
  have l5:("|within P x 1|rest|rest P 3|rest Q 3 1|rest P 3 1 1|rest P x 9|rest P 0 x":Str).length≤100:=by show tx5.length≤100;rw[zE,te5];decide
  have l6:("|order|order P|order Q 0|order Q 99|order P 1 1|near|near P|near Q 1":Str).length≤100:=by show tx6.length≤100;rw[zE,te6];decide
  have l7:("|near P 1 2|apart|apart P|apart Q 1|apart P 1 1|points|points P|points Q 1":Str).length≤100:=by show tx7.length≤100;rw[zE,te7];decide
  have l8:("|points P 1 1|parted|parted P|parted Q 1|parted P 1 1|count P 1\n|count\nP 1":Str).length≤100:=by show tx8.length≤100;rw[zE,te8];decide
  have l9:("|row P 1\n2|row Q 1\n|lead Q 99 1|rest Q 0 0|counts P 1|nears P 1":Str).length≤100:=by show tx9.length≤100;rw[zE,te9];decide
  dsimp only[zq]
  refine⟨_,rfl,_,_,rfl,rfl,by first|omega|(simp only[strLen_append];omega),?_⟩
  dsimp only[zq]
  refine⟨_,rfl,_,_,rfl,rfl,by first|omega|(simp only[strLen_append];omega),?_⟩
  dsimp only[zq]
  refine⟨_,rfl,_,_,rfl,rfl,by first|omega|(simp only[strLen_append];omega),?_⟩
  dsimp only[zq]
  refine⟨_,rfl,_,_,rfl,rfl,by first|omega|(simp only[strLen_append];omega),?_⟩
  dsimp only[zq]
  refine⟨_,rfl,_,_,rfl,rfl,by first|omega|(simp only[strLen_append];omega),?_⟩
  dsimp only[zq]
  refine⟨_,rfl,_,_,rfl,rfl,by first|omega|(simp only[strLen_append];omega),?_⟩
  dsimp only[zq]
  refine⟨_,rfl,_,_,rfl,rfl,by first|omega|(simp only[strLen_append];omega),?_⟩
  dsimp only[zq]
  refine⟨_,rfl,_,_,rfl,rfl,by first|omega|(simp only[strLen_append];omega),?_⟩
  dsimp only[zq]
  refine⟨_,rfl,_,_,rfl,rfl,by first|omega|(simp only[strLen_append];omega),?_⟩
  dsimp only[zq]
  refine⟨_,rfl,rfl,_,bar,rfl,rfl,by decide,by simp only[strLen_append];omega,fun q hq=>?_⟩
  exact k q _ zb (Same.lay hq)
abbrev qx:Stmt:=top 69
theorem sc_law_parts:zl ["found","few"] [] (zd qx):=fsc_
theorem dA {f:Addr}{fd:FuncData}(F:Fun K "_law_parts" "_law_parts" qx f fd)(T:Txt mg):FnOk P w K mg base CX0 1 f fd [] (kF partsL):=by
 refine F.ok sc_law_parts (fun vs H Q E h=>?_) (fun cdv A outer s H vs Q E hr h=>?_)
 ·obtain⟨rfl,_⟩:=h
  rfl
 ·obtain⟨rfl,k⟩:=h
  have hsl:=sizeLine_eq
  refine⟨_,(ze (gk (i:=0) (hN:=sc_law_parts.nd) (hy:=rfl) (hx:=rfl) (N:=["line"]) (cap:=[none]) (hc:=rfl) (hok:=(show zU ["found","few"] (zd qx) ["line"] [none] _=true by decide +kernel) ) (hi:=(piT (K:=K) rfl (zL (za zj (za zj (za zj pa_nil)))))) (hb:=fun cl C s3 H3 fp=>⟨(zr (i:=0) (show(["line"]:List Str).Nodup by decide +kernel) rfl (Or.inl rfl)),zO,fun it acc=>(zI rfl (zL (za (pv 0) (za zg pa_nil))))⟩))
   (ze (zm (i:=0) sc_law_parts.nd rfl (Or.inl rfl) (zk qg (pv 0) (qc (N:=["line"]) (cap:=[none]) rfl (show zU ["found","few"] (zd qx) ["line"] [none] _=true by decide +kernel) (piT (K:=K) rfl (zL (za zj (za zj (za zj pa_nil))))) (fun cl C s3 H3 fp=>⟨(zr (i:=0) (show(["line"]:List Str).Nodup by decide +kernel) rfl (Or.inl rfl)),zO,fun it acc=>(zI rfl (zL (za (pv 0) (za zg pa_nil))))⟩))))
   (ze (zm (i:=1) sc_law_parts.nd rfl (Or.inl rfl) (zL (za zj (za zj (za zj (za zj (za zj pa_nil)))))))
   (zi (zp (zk qg (pv 0) (qc (N:=["line"]) (cap:=[none]) rfl (show zU ["found","few"] (zd qx) ["line"] [none] _=true by decide +kernel) (piT (K:=K) rfl (pv 1)) (fun cl C s3 H3 fp=>⟨(zr (i:=0) (show(["line"]:List Str).Nodup by decide +kernel) rfl (Or.inl rfl)),zO,fun it acc=>(zI rfl (zL (za (pv 0) (za zg pa_nil))))⟩)))))))),?_⟩
  refine⟨by show 3≤sizeLine;omega,fun t1 ht1=>⟨t1,rfl,⟨_,SqT.of zb⟩,fun a1 ha1=>?_⟩⟩
  refine bS (us:=["lead P 3 1","lead P -1 1","lead P 99 1"]) (k:=1) (φ:=id) ha1 zb (by show 3≤1000;decide) (fun u _ H' Q h=>⟨_,rfl,h⟩) fun σ1 xs1 H1 e1 p1 S1=>?_
  have S01:=(Same.lay ht1).trans S1
  dsimp only[zq]
  refine⟨_,rfl,by show 3≤sizeLine;omega,fun t2 ht2=>⟨t2,rfl,⟨_,SqT.of zb⟩,fun a2 ha2=>?_⟩⟩
  refine bS (us:=["order P 6","order P -1","order P 99"]) (k:=2) (φ:=id) ha2 zb (by show 3≤1000;decide) (fun u _ H' Q h=>⟨_,rfl,h⟩) fun σ2 xs2 H2 e2 p2 S2=>?_
  have S12:=(Same.lay ht2).trans S2
  have p12:=(p1.mono fun b zs e=>S12 _ _ e).app p2
  have l12:(xs1++xs2).length=6:=p12.1
  refine⟨a1,a2,xs1,xs2,rfl,rfl,S12 _ _ e1,e2,by rw[←List.length_append,l12];omega,fun f1 hf1=>?_⟩
  have S3:Same H2 (upd H2 f1 (.lst (xs1++xs2))):=Same.lay hf1
  have e3:upd H2 f1 (.lst (xs1++xs2)) f1=some (.lst (xs1++xs2)):=zb
  generalize upd H2 f1 (.lst (xs1++xs2))=H3 at S3 e3
  dsimp only[zq]
  refine⟨by show 5≤sizeLine;omega,fun t3 ht3=>?_⟩
  dsimp only[zq]
  refine⟨_,rfl,_,rfl,t3,rfl,⟨_,SqT.of zb⟩,fun a3 ha3=>?_⟩
  refine bS (us:=["rest P 0 0","rest P -1 0","rest P 3 3","rest P 3 -1","rest P 1 1"]) (k:=3) (φ:=id) ha3 zb (by show 5≤1000;decide) (fun u _ H' Q h=>⟨_,rfl,h⟩) fun σ4 xs3 H4 e4 p3 S4=>?_
  have S34:=(Same.lay ht3).trans S4
  have p123:=((p12.mono fun b zs e=>S3 _ _ e).mono fun b zs e=>S34 _ _ e).app p3
  have l3:xs3.length=5:=p3.1
  refine⟨f1,a3,_,xs3,rfl,rfl,S34 _ _ e3,e4,by rw[l12,l3];omega,fun q hq=>?_⟩
  exact k q _ _ zb (p123.mono fun b zs e=>Same.lay hq _ _ e) ((S01.trans S12).trans (S3.trans (S34.trans (Same.lay hq))))
end
end
section
def heads1:List Str:=["row P 1 ","lead P 0 ","count P ","within P 1 ","rest P 3 "]
def heads2:List Str:=["order P ","near P ","apart P ","points P ","parted P "]
def headsL:List Str:=heads1++heads2
def odd1:List Str:=["x","01","00","-0","-01","+1","1.0","1_0","--1","-","1 ",""]
def odd2:List Str:=[("1":Str)++Txt.mul "0" 14,("-1":Str)++Txt.mul "0" 14]
def oddL:List Str:=odd1++odd2
def three:List Str:=["lead P ","within P ","rest P "]
def greatS:Str:=("1":Str)++Txt.mul "0" 12
def yx:List (Str×Nat):=headsL.flatMap fun h=>oddL.map fun o=>(h++o,0)
def gP:List (Str×Nat):=oddL.flatMap fun o=>three.map fun h=>(h++o++" 1",0)
def dN:List (Str×Nat):=oddL.map fun o=>(("row P ":Str)++o++" 1",0)
def doorsL:List (Str×Nat):=yx++gP++dN++[(("row P ":Str)++greatS,0),(("lead P 0 -":Str)++greatS,0),(("lead P 9 ":Str)++greatS,0)]
theorem zcR:∀u∈headsL,u.length≤100:=by decide +kernel
theorem kK:∀u∈oddL,u.length≤100:=by decide +kernel
theorem fW:∀u∈three,u.length≤100:=by decide +kernel
section
variable {P:Program}{w:World}{K:PySem.W.Frag}{mg:Str→Option Value}{base:Heap}
abbrev qy:Stmt:=top 68
theorem sc_law_doors:zl ["heads","odd","found","head","one","great"] [] (zd qy):=fsc_
theorem dC {f:Addr}{fd:FuncData}(F:Fun K "_law_doors" "_law_doors" qy f fd)(T:Txt mg):FnOk P w K mg base CX0 1 f fd [] (kF doorsL):=by
 refine F.ok sc_law_doors (fun vs H Q E h=>?_) (fun cdv A outer s H vs Q E hr h=>?_)
 ·obtain⟨rfl,_⟩:=h
  rfl
 ·obtain⟨rfl,k⟩:=h
  have hsl:=sizeLine_eq
  refine⟨_,(@ze _ _ _ _ _ (@zm _ _ 0 _ _ _ _ sc_law_doors.nd rfl (Or.inl rfl) (@zG _ _ _ _ (@kJ _ _ ["row P 1 ","lead P 0 ","count P ","within P 1 ","rest P 3 "] rfl)) rfl (Or.inl rfl))
   (ze (zm (i:=0) sc_law_doors.nd rfl (Or.inl rfl) (zk qg (pv 0) (@zG _ _ _ _ (@kJ _ _ ["order P ","near P ","apart P ","points P ","parted P "] rfl))))
   (@ze _ _ _ _ _ (@zm _ _ 1 _ _ _ _ sc_law_doors.nd rfl (Or.inl rfl) (@zG _ _ _ _ (@kJ _ _ ["x","01","00","-0","-01","+1","1.0","1_0","--1","-","1 ",""] rfl)) rfl (Or.inl rfl))
   (ze (zm (i:=1) sc_law_doors.nd rfl (Or.inl rfl) (zk qg (pv 1) (zG (za (zk zh zj (zk dv zj zg)) (za (zk zh zj (zk dv zj zg)) pa_nil)))))
   (ze (zm (i:=2) sc_law_doors.nd rfl (Or.inl rfl) (zG pa_nil))
   (ze (dg PassesOwn.never rfl (piL (K:=K) rfl (pv 0)) (zr (i:=3) sc_law_doors.nd rfl (Or.inr rfl))
     (zi (zm (i:=2) sc_law_doors.nd rfl (Or.inl rfl) (zk qg (pv 2) (qc (N:=["one","head"]) (cap:=[none,some 3]) rfl (show zU ["heads","odd","found","head","one","great"] (zd qy) ["one","head"] [none,some 3] _=true by decide +kernel) (piL (K:=K) rfl (pv 1)) (fun cl C s3 H3 fp=>⟨(zr (i:=0) (show(["one","head"]:List Str).Nodup by decide +kernel) rfl (Or.inl rfl)),zO,fun it acc=>(zI rfl (zL (za (zk zh (pv 1) (pv 0)) (za zg pa_nil))))⟩))))))
   (ze (dg PassesOwn.never rfl (piL (K:=K) rfl (pv 1)) (zr (i:=4) sc_law_doors.nd rfl (Or.inr rfl))
     (zi (zm (i:=2) sc_law_doors.nd rfl (Or.inl rfl) (zk qg (pv 2) (qc (N:=["head","one"]) (cap:=[none,some 4]) rfl (show zU ["heads","odd","found","head","one","great"] (zd qy) ["head","one"] [none,some 4] _=true by decide +kernel) (piT (K:=K) rfl (zL (za zj (za zj (za zj pa_nil))))) (fun cl C s3 H3 fp=>⟨(zr (i:=0) (show(["head","one"]:List Str).Nodup by decide +kernel) rfl (Or.inl rfl)),zO,fun it acc=>(zI rfl (zL (za (zk zh (zk zh (pv 0) (pv 1)) zj) (za zg pa_nil))))⟩))))))
   (ze (zm (i:=2) sc_law_doors.nd rfl (Or.inl rfl) (zk qg (pv 2) (qc (N:=["one"]) (cap:=[none]) rfl (show zU ["heads","odd","found","head","one","great"] (zd qy) ["one"] [none] _=true by decide +kernel) (piL (K:=K) rfl (pv 1)) (fun cl C s3 H3 fp=>⟨(zr (i:=0) (show(["one"]:List Str).Nodup by decide +kernel) rfl (Or.inl rfl)),zO,fun it acc=>(zI rfl (zL (za (zk zh (zk zh zj (pv 0)) zj) (za zg pa_nil))))⟩))))
   (ze (zm (i:=5) sc_law_doors.nd rfl (Or.inl rfl) (zk zh zj (zk dv zj zg)))
   (zi (zp (zk qg (pv 2) (zG (za (zL (za (zk zh zj (pv 5)) (za zg pa_nil))) (za (zL (za (zk zh zj (pv 5)) (za zg pa_nil))) (za (zL (za (zk zh zj (pv 5)) (za zg pa_nil))) pa_nil)))))))))))))))),?_⟩
  refine⟨by show 5≤sizeLine;omega,fun h1 nh1=>?_⟩
  dsimp only[zq]
  refine⟨_,rfl,by show 5≤sizeLine;omega,fun h2 nh2=>⟨h1,h2,heads1.map V.str,heads2.map V.str,rfl,rfl,(zf (zc zb nh2)).trans zb,zb,by show 10≤sizeLine;omega,fun hl nhl=>?_⟩⟩
  have S1:Same H (upd (upd (upd H h1 (.lst (heads1.map V.str))) h2 (.lst (heads2.map V.str))) hl (.lst (heads1.map V.str++heads2.map V.str))):=(Same.lay nh1).trans ((Same.lay nh2).trans (Same.lay nhl))
  have e1:upd (upd (upd H h1 (.lst (heads1.map V.str))) h2 (.lst (heads2.map V.str))) hl (.lst (heads1.map V.str++heads2.map V.str)) hl=some (.lst (headsL.map V.str)):=zb
  show zeL _ _ _ _ (upd (upd (upd H h1 (.lst (heads1.map V.str))) h2 (.lst (heads2.map V.str))) hl (.lst (heads1.map V.str++heads2.map V.str)))
  generalize upd (upd (upd H h1 (.lst (heads1.map V.str))) h2 (.lst (heads2.map V.str))) hl (.lst (heads1.map V.str++heads2.map V.str))=H1 at S1 e1
  refine⟨by show 12≤sizeLine;omega,fun o1 no1=>?_⟩
  dsimp only[zq]
  have m14:(Txt.mul "0" 14).length=14:=by decide +kernel
  have m12:(Txt.mul "0" 12).length=12:=by decide +kernel
  have c1:("1":Str).length=1:=by decide
  have c2:("-1":Str).length=2:=by decide
  refine⟨_,rfl,"0",14,rfl,rfl,by decide,by decide,by decide,_,_,rfl,rfl,by omega,"0",14,rfl,rfl,by decide,by decide,by decide,_,_,rfl,rfl,by omega,by show 2≤sizeLine;omega,fun o2 no2=>⟨o1,o2,odd1.map V.str,odd2.map V.str,rfl,rfl,(zf (zc zb no2)).trans zb,zb,by show 14≤sizeLine;omega,fun ol nol=>?_⟩⟩
  have S2:Same H1 (upd (upd (upd H1 o1 (.lst (odd1.map V.str))) o2 (.lst (odd2.map V.str))) ol (.lst (odd1.map V.str++odd2.map V.str))):=(Same.lay no1).trans ((Same.lay no2).trans (Same.lay nol))
  have e2:upd (upd (upd H1 o1 (.lst (odd1.map V.str))) o2 (.lst (odd2.map V.str))) ol (.lst (odd1.map V.str++odd2.map V.str)) ol=some (.lst (oddL.map V.str)):=zb
  show zeL _ _ _ _ (upd (upd (upd H1 o1 (.lst (odd1.map V.str))) o2 (.lst (odd2.map V.str))) ol (.lst (odd1.map V.str++odd2.map V.str)))
  generalize upd (upd (upd H1 o1 (.lst (odd1.map V.str))) o2 (.lst (odd2.map V.str))) ol (.lst (odd1.map V.str++odd2.map V.str))=H2 at S2 e2
  refine⟨by show 0≤sizeLine;omega,fun f0 nf0=>?_⟩
  dsimp only[zq]
  have e1':=S2 _ _ e1
  have S3:Same H2 (upd H2 f0 (.lst [])):=Same.lay nf0
  have e3:upd H2 f0 (.lst []) f0=some (.lst []):=zb
  generalize upd H2 f0 (.lst [])=H3 at S3 e3
  have e13:=S3 _ _ e1'
  have e23:=S3 _ _ e2
  have hlo:(oddL.map V.str).length=14:=by decide
  refine⟨_,rfl,hl,rfl,⟨_,SqL.of e13⟩,?_⟩
  refine gM (xs:=headsL.map V.str) (fun i σ H'=>∃(v3:Option V) (q:Addr) (xs:List V),σ=[some (.ref hl),some (.ref ol),some (.ref q),v3,none,none]∧H' q=some (.lst xs)∧TupsAt gW H' xs ((headsL.take i).flatMap fun h=>oddL.map fun o=>(h++o,0))∧xs.length=14*i∧Same H3 H') ⟨none,f0,[],rfl,e3,TupsAt.nil,rfl,Same.refl _⟩ ?_ ?_ ?_
  ·rintro i σ H4 hi ⟨v3,q,xs,rfl,_,_,_,S4⟩
   exact SqL.of (S4 _ _ e13)
  ·rintro i x σ H4 hx ⟨v3,q,xs,rfl,hq,tp,hxl,S4⟩
   obtain⟨u,hu,rfl⟩:=jO hx
   have hm:=zcR u (List.mem_of_getElem? hu)
   have hi10:i<10:=(List.getElem?_eq_some_iff.mp hu).1
   refine⟨_,rfl,_,rfl,ol,rfl,⟨_,SqL.of (S4 _ _ e23)⟩,fun acc nacc=>?_⟩
   refine zfG (us:=oddL) (k:=0) (φ:=fun o=>u++o) nacc (S4 _ _ e23) (by decide) (fun o ho H' Q h=>⟨_,rfl,_,rfl,_,_,rfl,rfl,by have:=kK o ho;omega,h⟩) fun σ5 ys H5 e5 p5 S5=>?_
   have l5:ys.length=14:=p5.1
   refine⟨q,acc,xs,ys,rfl,rfl,S5 _ _ hq,e5,by rw[hxl,l5];omega,fun r nr=>?_⟩
   refine⟨_,r,xs++ys,rfl,zb,?_,by rw[List.length_append,hxl,l5];omega,(S4.trans S5).trans (Same.lay nr)⟩
   rw[vY _ hu]
   exact((tp.mono fun b zs e=>S5 _ _ e).app p5).mono fun b zs e=>Same.lay nr _ _ e
  rintro σ H4 ⟨v3,q,xs,rfl,hq,tp,hxl,S4⟩
  rw[List.length_map,List.take_length] at tp
  rw[List.length_map] at hxl
  have hxl:xs.length=140:=hxl
  refine⟨_,rfl,ol,rfl,⟨_,SqL.of (S4 _ _ e23)⟩,?_⟩
  refine gM (xs:=oddL.map V.str) (fun i σ H'=>∃(v4:Option V) (q:Addr) (xs:List V),σ=[some (.ref hl),some (.ref ol),some (.ref q),v3,v4,none]∧H' q=some (.lst xs)∧TupsAt gW H' xs (yx++(oddL.take i).flatMap fun(o:Str)=>three.map fun(h:Str)=>(h++o++(" 1":Str),(0:Nat)))∧xs.length=140+3*i∧Same H4 H') ⟨none,q,xs,rfl,hq,by rw[List.take_zero,List.flatMap_nil,List.append_nil];exact tp,hxl,Same.refl _⟩ ?_ ?_ ?_
  ·rintro i σ H5 hi ⟨v4,q,xs,rfl,_,_,_,S5⟩
   exact SqL.of (S5 _ _ (S4 _ _ e23))
  ·rintro i x σ H5 hx ⟨v4,q,xs,rfl,hq,tp,hxl,S5⟩
   obtain⟨u,hu,rfl⟩:=jO hx
   have hm:=kK u (List.mem_of_getElem? hu)
   have hi14:i<14:=(List.getElem?_eq_some_iff.mp hu).1
   have c3:(" 1":Str).length=2:=by decide
   refine⟨_,rfl,by show 3≤sizeLine;omega,fun t nt=>⟨t,rfl,⟨_,SqT.of zb⟩,fun acc nacc=>?_⟩⟩
   refine bS (us:=three) (k:=0) (φ:=fun(h:Str)=>h++u++(" 1":Str)) nacc zb (by decide) (fun h hh H' Q k'=>⟨_,rfl,_,rfl,_,_,rfl,rfl,by have:=fW h hh;omega,_,_,rfl,rfl,by rw[strLen_append];have:=fW h hh;omega,k'⟩) fun σ6 ys H6 e6 p6 S6=>?_
   have l6:ys.length=3:=p6.1
   have S56:=(Same.lay nt).trans S6
   refine⟨q,acc,xs,ys,rfl,rfl,S56 _ _ hq,e6,by rw[hxl,l6];omega,fun r nr=>?_⟩
   refine⟨_,r,xs++ys,rfl,zb,?_,by rw[List.length_append,hxl,l6];omega,(S5.trans S56).trans (Same.lay nr)⟩
   rw[vY _ hu,←List.append_assoc]
   exact((tp.mono fun b zs e=>S56 _ _ e).app p6).mono fun b zs e=>Same.lay nr _ _ e
  rintro σ H5 ⟨v4,q,xs,rfl,hq,tp,hxl,S5⟩
  rw[List.length_map,List.take_length] at tp
  rw[List.length_map] at hxl
  have hxl:xs.length=182:=hxl
  have tp:TupsAt gW H5 xs (yx++gP):=tp
  have e25:=S5 _ _ (S4 _ _ e23)
  refine⟨_,rfl,_,rfl,ol,rfl,⟨_,SqL.of e25⟩,fun acc nacc=>?_⟩
  have c3:(" 1":Str).length=2:=by decide
  have c4:("row P ":Str).length=6:=by decide +kernel
  refine zfG (us:=oddL) (k:=0) (φ:=fun(o:Str)=>("row P ":Str)++o++(" 1":Str)) nacc e25 (by decide) (fun o ho H' Q k'=>⟨_,rfl,_,_,rfl,rfl,by have:=kK o ho;omega,_,_,rfl,rfl,by rw[strLen_append];have:=kK o ho;omega,k'⟩) fun σ6 ys H6 e6 p6 S6=>?_
  have l6:ys.length=14:=p6.1
  refine⟨q,acc,xs,ys,rfl,rfl,S6 _ _ hq,e6,by rw[hxl,l6];omega,fun r nr=>?_⟩
  have tp6:TupsAt gW (upd H6 r (.lst (xs++ys))) (xs++ys) (yx++gP++dN):=((tp.mono fun b zs e=>S6 _ _ e).app p6).mono fun b zs e=>Same.lay nr _ _ e
  have S7:Same H6 (upd H6 r (.lst (xs++ys))):=Same.lay nr
  have e7:upd H6 r (.lst (xs++ys)) r=some (.lst (xs++ys)):=zb
  have hxy:(xs++ys).length=196:=by rw[List.length_append,hxl,l6]
  generalize xs++ys=zs at tp6 S7 e7 hxy
  generalize upd H6 r (.lst zs)=H7 at tp6 S7 e7
  dsimp only[zq]
  have gl:greatS.length=13:=by decide +kernel
  have c5:("lead P 0 -":Str).length=10:=by decide +kernel
  have c6:("lead P 9 ":Str).length=9:=by decide +kernel
  refine⟨"0",12,rfl,rfl,by decide,by decide,by decide,_,_,rfl,rfl,by omega,?_⟩
  dsimp only[zq]
  show zgR _ _ [some (.ref hl),some (.ref ol),some (.ref r),v3,v4,some (.str greatS)] H7
  refine⟨_,rfl,_,rfl,_,_,rfl,rfl,by omega,by show 2≤sizeLine;omega,fun t1 n1=>⟨_,rfl,_,_,rfl,rfl,by omega,by show 2≤sizeLine;omega,fun t2 n2=>⟨_,rfl,_,_,rfl,rfl,by omega,by show 2≤sizeLine;omega,fun t3 n3=>⟨by show 3≤sizeLine;omega,fun l nl=>?_⟩⟩⟩⟩
  have a1:=Same.lay (o:=.tup [.str (("row P ":Str)++greatS),.int 0]) n1
  have a2:=Same.lay (o:=.tup [.str (("lead P 0 -":Str)++greatS),.int 0]) n2
  have a3:=Same.lay (o:=.tup [.str (("lead P 9 ":Str)++greatS),.int 0]) n3
  have a4:=Same.lay (o:=.lst [.ref t1,.ref t2,.ref t3]) nl
  have b1:=a4 _ _ (a3 _ _ (a2 _ _ (zb (H:=H7) (a:=t1) (o:=.tup [.str (("row P ":Str)++greatS),.int 0]))))
  have b2:=a4 _ _ (a3 _ _ (zb (H:=upd H7 t1 (.tup [.str (("row P ":Str)++greatS),.int 0])) (a:=t2) (o:=.tup [.str (("lead P 0 -":Str)++greatS),.int 0])))
  have b3:=a4 _ _ (zb (H:=upd (upd H7 t1 (.tup [.str (("row P ":Str)++greatS),.int 0])) t2 (.tup [.str (("lead P 0 -":Str)++greatS),.int 0])) (a:=t3) (o:=.tup [.str (("lead P 9 ":Str)++greatS),.int 0]))
  have e8:=a4 _ _ (a3 _ _ (a2 _ _ (a1 _ _ e7)))
  have S8:Same H7 _:=((a1.trans a2).trans a3).trans a4
  have e9:upd (upd (upd (upd H7 t1 (.tup [.str (("row P ":Str)++greatS),.int 0])) t2 (.tup [.str (("lead P 0 -":Str)++greatS),.int 0])) t3 (.tup [.str (("lead P 9 ":Str)++greatS),.int 0])) l (.lst [.ref t1,.ref t2,.ref t3]) l=some (.lst [.ref t1,.ref t2,.ref t3]):=zb
  generalize upd (upd (upd (upd H7 t1 (.tup [.str (("row P ":Str)++greatS),.int 0])) t2 (.tup [.str (("lead P 0 -":Str)++greatS),.int 0])) t3 (.tup [.str (("lead P 9 ":Str)++greatS),.int 0])) l (.lst [.ref t1,.ref t2,.ref t3])=H8 at b1 b2 b3 e8 S8 e9
  have tp8:TupsAt gW H8 (zs++[.ref t1]++[.ref t2]++[.ref t3]) (yx++gP++dN++[(("row P ":Str)++greatS,0)]++[(("lead P 0 -":Str)++greatS,0)]++[(("lead P 9 ":Str)++greatS,0)]):=
   (((tp6.mono fun b zs e=>S8 _ _ e).snoc b1).snoc b2).snoc b3
  refine⟨r,l,zs,_,rfl,rfl,e8,e9,by rw[hxy];show 199≤sizeLine;omega,fun z nz=>?_⟩
  refine k z _ _ zb (TupsAt.mono (H:=H8) ?_ fun b zs e=>Same.lay nz _ _ e) ((((((((S1.trans S2).trans S3).trans S4).trans S5).trans S6).trans S7).trans S8).trans (Same.lay nz))
  have q1:zs++[.ref t1]++[.ref t2]++[.ref t3]=zs++[.ref t1,.ref t2,.ref t3]:=by simp
  have q2:yx++gP++dN++[(("row P ":Str)++greatS,0)]++[(("lead P 0 -":Str)++greatS,0)]++[(("lead P 9 ":Str)++greatS,0)]=doorsL:=by unfold doorsL;simp only[List.append_assoc,List.cons_append,List.nil_append]
  rw[←q1,←q2]
  exact tp8
end
end
section
def c_letters:Str:="abcdefghijklmnopqrstuvwxyz"
def jZ (scr:List Int):Nat:=97+(zF scr 0%26).toNat
def placeN (scr:List Int):Nat:=(zF scr 1%8).toNat
def tailN (scr:List Int):Nat:=(zF scr 2%(8-zF scr 1%8)).toNat
def ji (scr:List Int)(i:Nat):Nat:=97+(((i:Int)+zF scr 9)%26).toNat
def qX (scr:List Int):Int:=zF scr 8%8
def nmL (scr:List Int)(i:Nat):List Nat:=
 if qX scr=1∨qX scr=2 then[ji scr i]
 else if qX scr=3 then(if i=0 then[97] else[97,98])
 else if qX scr=4 then(if i=0 then[114,111,119] else[108,101,97,100])
 else List.replicate (placeN scr) (jZ scr)++[ji scr i]++List.replicate (tailN scr) (jZ scr)
theorem zfQ (scr:List Int):placeN scr+tailN scr≤7:=by
 unfold placeN tailN
 have h1:=mod_lt (zF scr 1) 8 (by decide)
 have h2:=mod_lt (zF scr 2) (8-zF scr 1%8) (by omega)
 omega
theorem zbT (scr:List Int):97≤jZ scr∧jZ scr≤122:=by
 unfold jZ
 have h1:=mod_lt (zF scr 0) 26 (by decide)
 omega
theorem pR (scr:List Int)(i:Nat):97≤ji scr i∧ji scr i≤122:=by
 unfold ji
 have h1:=mod_lt ((i:Int)+zF scr 9) 26 (by decide)
 omega
theorem zfX {l:List Nat}(h1:1≤l.length)(h2:l.length≤8)(h3:∀c∈l,97≤c∧c≤122):isNm (mkS l)=true:=by
 unfold isNm
 rw[zE,decide_eq_true (show 1≤(mkS l).cps.toList.length∧(mkS l).cps.toList.length≤8 from⟨h1,h2⟩),Bool.true_and]
 exact List.all_eq_true.mpr fun c hc=>decide_eq_true (h3 c hc)
theorem zeb (scr:List Int)(i:Nat):isNm (mkS (nmL scr i))=true:=by
 unfold nmL
 split
 ·exact zfX (by simp) (by simp) fun c hc=>by rw[List.mem_singleton.mp hc];exact pR scr i
 ·split
  ·split<;>decide +kernel
  ·split
   ·split<;>decide +kernel
   ·have hs:=zfQ scr
    refine zfX (by simp;omega) (by simp;omega) fun c hc=>?_
    rcases List.mem_append.mp hc with hc|hc
    ·rcases List.mem_append.mp hc with hc|hc
     ·rw[(List.mem_replicate.mp hc).2];exact zbT scr
     ·rw[List.mem_singleton.mp hc];exact pR scr i
    ·rw[(List.mem_replicate.mp hc).2];exact zbT scr
theorem zeT (scr:List Int):ji scr 0≠ji scr 1:=by
 unfold ji
 have h1:=mod_lt (((0:Nat):Int)+zF scr 9) 26 (by decide)
 have h2:=mod_lt (((1:Nat):Int)+zF scr 9) 26 (by decide)
 omega
theorem zgw (scr:List Int):nmL scr 0≠nmL scr 1:=by
 have hs:=zeT scr
 unfold nmL
 split
 ·intro e
  injection e with e
  exact hs e
 ·split
  ·intro e;exact absurd e (by decide)
  ·split
   ·intro e;exact absurd e (by decide)
   ·intro e
    rw[List.append_assoc,List.append_assoc] at e
    have:=List.append_cancel_left e
    injection this with e
    exact hs e
theorem nms (scr:List Int):Nms (nmL scr 0) (nmL scr 1):=⟨zeb scr 0,zeb scr 1,zgw scr⟩
theorem br {r:Int}(h0:0≤r)(h1:r<26):atI c_letters.cps.toList r=some (97+r.toNat):=by
 obtain⟨j,rfl⟩:=Int.eq_ofNat_of_zero_le h0
 have e:c_letters.cps.toList=(List.range 26).map (97 + ·):=by decide +kernel
 refine qP ?_
 rw[e,List.getElem?_map,List.getElem?_range (by omega)]
 rfl
def zbC (K:PySem.W.Frag):Spb:=fun n vs H Q=>∃(a:Addr) (scr:List Int) (i:Nat),vs=[.ref a,.int (i:Int)]∧Scr K H a scr∧i≤1∧∀(t n':Nat) (H':Hp),0<t→t<n'→n≤n'→Same H H'→Q n' (.tst (mkS (nmL scr i)) t) H'
section
variable {P:Program}{w:World}{K:PySem.W.Frag}{mg:Str→Option Value}{base:Heap}
abbrev x6:Stmt:=top 64
theorem sc_law_name:zl ["script","i","letters","pad","place","tail","sign","style"] ["script","i"] (zd x6):=fsc_
theorem dF {f f1:Addr}{fd fd1:FuncData}(F:Fun K "_law_name" "_law_name" x6 f fd)(T:Txt mg)(D__law_draw:zC K mg "_law_draw" vj ["script","k"] f1 fd1)(G__law_draw:FnOk P w K mg base CX0 1 f1 fd1 ["script","k"] (zaL K)):FnOkB P w K mg base 2 f fd ["script","i"] (zbC K):=by
 refine F.okB sc_law_name (fun n vs H Q h=>?_) (fun cdv A outer s H vs n Q hr h=>?_)
 ·obtain⟨a,scr,i,rfl,_⟩:=h
  rfl
 ·obtain⟨a,scr,i,rfl,hS,hi,k⟩:=h
  have hsl:=sizeLine_eq
  refine⟨_,(zu (de (i:=2) sc_law_name.nd rfl (Or.inl rfl) kI)
   (zu (de (i:=3) sc_law_name.nd rfl (Or.inl rfl) (dq zb0 (PE.b (jx (pv 2))) (PE.b (zk qI (zo G__law_draw (hr.mono (by decide)) rfl D__law_draw.mg D__law_draw.fn.kp D__law_draw.bd .nil zv (za (pv 0) (za zg pa_nil))) zg)) (fun _ _=>rfl)))
   (zu (PS.b (zm (i:=4) sc_law_name.nd rfl (Or.inl rfl) (zk qI (zo G__law_draw (hr.mono (by decide)) rfl D__law_draw.mg D__law_draw.fn.kp D__law_draw.bd .nil zv (za (pv 0) (za zg pa_nil))) zg)))
   (zu (PS.b (zm (i:=5) sc_law_name.nd rfl (Or.inl rfl) (zk qI (zo G__law_draw (hr.mono (by decide)) rfl D__law_draw.mg D__law_draw.fn.kp D__law_draw.bd .nil zv (za (pv 0) (za zg pa_nil))) (zk du zg (pv 4)))))
   (zu (de (i:=6) sc_law_name.nd rfl (Or.inl rfl) (dq zb0 (PE.b (jx (pv 2))) (PE.b (zk qI (zk vX (pv 1) (zo G__law_draw (hr.mono (by decide)) rfl D__law_draw.mg D__law_draw.fn.kp D__law_draw.bd .nil zv (za (pv 0) (za zg pa_nil)))) zg)) (fun _ _=>rfl)))
   (zu (PS.b (zm (i:=7) sc_law_name.nd rfl (Or.inl rfl) (zk qI (zo G__law_draw (hr.mono (by decide)) rfl D__law_draw.mg D__law_draw.fn.kp D__law_draw.bd .nil zv (za (pv 0) (za zg pa_nil))) zg)))
   (zu (df (PT.b (PW.pt (ba (zw wN (pv 7) zg (zx _)) (yl (zw wN (pv 7) zg (zx _))))))
     (jw (xu (PE.b (pv 6))))
     wK)
   (zu (df (PT.b (PW.pt (zdE (zw wN (pv 7) zg (zx _)) (zbM (zw gu (pv 1) zg (zx _))))))
     (@jw _ _ _ (@xu _ _ _ _ (@dq _ _ _ _ _ _ _ (IxR.b (ixT (K:=K) rfl)) (@zbR _ _ _ _ _ (@gr _ _ ["a","ab","ba","b","aba","bab","abc","cba"] rfl)) (PE.b (pv 1)) (fun _ _=>rfl))))
     wK)
   (zu (df (PT.b (PW.pt (zdE (zw wN (pv 7) zg (zx _)) (zbM (zw gu (pv 1) zg (zx _))))))
     (@jw _ _ _ (@xu _ _ _ _ (@dq _ _ _ _ _ _ _ (IxR.b (ixT (K:=K) rfl)) (@zbR _ _ _ _ _ (@gr _ _ ["row","lead","show","count","within","rest","apart","points"] rfl)) (PE.b (pv 1)) (fun _ _=>rfl))))
     wK)
   (jw (xu (dm zbV (dm zbV (dm zbU (PE.b (pv 3)) (PE.b (pv 4))) (PE.b (pv 6))) (dm zbU (PE.b (pv 3)) (PE.b (pv 5))))))))))))))),?_⟩
  have cl:c_letters.length=26:=by decide +kernel
  intro t0 ht0
  dsimp only[zq]
  have hm:∀z:Int,0≤z%26∧z%26<26:=fun z=>mod_lt z 26 (by decide)
  refine⟨_,rfl,_,rfl,a,scr,0,rfl,hS,by decide,by decide,fun H1 S1=>⟨_,_,rfl,rfl,(by show(0:Int)<_;decide),c_letters,_,_,rfl,rfl,by omega,br (hm _).1 (hm _).2,fun t1 ht1=>?_⟩⟩
  have h8:=mod_lt (zF scr 1) 8 (by decide)
  refine⟨_,rfl,a,scr,1,rfl,hS.same S1,by decide,by decide,fun H2 S2=>⟨_,_,rfl,rfl,(by show(0:Int)<_;decide),?_⟩⟩
  refine⟨_,rfl,a,scr,2,rfl,(hS.same S1).same S2,by decide,by decide,fun H3 S3=>⟨_,rfl,_,_,rfl,rfl,_,_,rfl,rfl,(by show(0:Int)<_;omega),?_⟩⟩
  refine⟨_,rfl,_,rfl,_,rfl,a,scr,9,rfl,((hS.same S1).same S2).same S3,by decide,by decide,fun H4 S4=>⟨_,_,rfl,rfl,_,_,rfl,rfl,(by show(0:Int)<_;decide),c_letters,_,_,rfl,rfl,by omega,br (hm _).1 (hm _).2,fun t2 ht2=>?_⟩⟩
  refine⟨_,rfl,a,scr,8,rfl,(((hS.same S1).same S2).same S3).same S4,by decide,by decide,fun H5 S5=>⟨_,_,rfl,rfl,(by show(0:Int)<_;decide),?_⟩⟩
  dsimp only[zq,lS,lE,lT]
  have S05:Same H H5:=(((S1.trans S2).trans S3).trans S4).trans S5
  have e1:zF scr 1%8=(placeN scr:Int):=by unfold placeN;omega
  have hsz:=zfQ scr
  have e2:zF scr 2%(8-zF scr 1%8)=(tailN scr:Int):=by
   unfold tailN
   have:=mod_lt (zF scr 2) (8-zF scr 1%8) (by omega)
   omega
  show zfJ _ _ _ _ [some (.ref a),some (.int (i:Int)),some (.tst c_letters t0),some (.tst (mkS [jZ scr]) t1),some (.int (zF scr 1%8)),some (.int (zF scr 2%(8-zF scr 1%8))),some (.tst (mkS [ji scr i]) t2),some (.int (qX scr))] H5
  rw[e2,e1]
  have hd:∀c:Int,decide (V.int (qX scr)=V.int c)=decide (qX scr=c):=fun c=>decide_eq_decide.mpr ⟨fun h=>by injection h,fun h=>by rw[h]⟩
  have fin:∀(l:List Nat) (t n':Nat) (H':Hp),l=nmL scr i→0<t→t<n'→t2+1≤n'→Same H5 H'→Q n' (.tst (mkS l) t) H':=fun l t n' H' e h1 h2 h3 S'=>e▸k t n' H' h1 h2 (by omega) (S05.trans S')
  have sgn:(qX scr=1∨qX scr=2)→Q (t2+1) (.tst (mkS [ji scr i]) t2) H5:=fun h=>fin _ t2 (t2+1) H5 (by unfold nmL;rw[if_pos h]) (by omega) (by omega) (Nat.le_refl _) (Same.refl _)
  refine⟨_,rfl,rfl,_,rfl,?_⟩
  rw[hd]
  refine jB (fun c1=>jN ⟨_,rfl,sgn (.inl (of_decide_eq_true c1))⟩) (fun c1=>⟨_,rfl,rfl,_,rfl,?_⟩)
  rw[hd]
  refine jB (fun c2=>⟨_,rfl,sgn (.inr (of_decide_eq_true c2))⟩) (fun c2=>?_)
  have hn12:¬(qX scr=1∨qX scr=2):=fun h=>h.elim (fun h=>c1 (decide_eq_true h)) fun h=>c2 (decide_eq_true h)
  have hi8:decide ((i:Int)<8)=true:=decide_eq_true (by omega)
  have i01:i=0∨i=1:=by omega
  have pick:∀(ws:List Str) (l0 l1:List Nat) (D:zbp),D.rt=Q→ws[0]?=some (mkS l0)→ws[1]?=some (mkS l1)→ws.length=8→(if i=0 then l0 else l1)=nmL scr i→
   zfK (zdm (fun n x y H Q=>zgk K x y H (Q n)) (zfH (zdl ws)) (lE (zf7 1))) D (t2+1) [some (.ref a),some (.int (i:Int)),some (.tst c_letters t0),some (.tst (mkS [jZ scr]) t1),some (.int (placeN scr:Int)),some (.int (tailN scr:Int)),some (.tst (mkS [ji scr i]) t2),some (.int (qX scr))] H5:=by
   intro ws l0 l1 D hD g0 g1 hl he ts n' hn' hts hb
   have hzl:(List.zipWith V.tst ws ts).length=8:=by rw[List.length_zipWith,hts,hl];rfl
   have get:∀(j:Nat) (z:Str),ws[j]?=some z→j<8→∃t,(List.zipWith V.tst ws ts)[j]?=some (.tst z t)∧t2+1≤t∧t<n':=fun j z hz hj=>by
    have hlt:j<ts.length:=by omega
    refine⟨ts[j],?_,hb _ (List.getElem_mem hlt)⟩
    rw[List.getElem?_zipWith,hz,List.getElem?_eq_getElem hlt]
   refine⟨by rw[hzl];omega,fun p hp=>?_⟩
   rcases i01 with rfl|rfl
   ·obtain⟨t,g,b1,b2⟩:=get 0 _ g0 (by decide)
    exact⟨_,rfl,p,_,_,_,rfl,rfl,SqT.of zb,qP (j:=0) g,hD▸fin l0 t n' _ he (by omega) b2 (by omega) (Same.lay hp)⟩
   ·obtain⟨t,g,b1,b2⟩:=get 1 _ g1 (by decide)
    exact⟨_,rfl,p,_,_,_,rfl,rfl,SqT.of zb,qP (j:=1) g,hD▸fin l1 t n' _ he (by omega) b2 (by omega) (Same.lay hp)⟩
  refine⟨_,rfl,rfl,_,rfl,?_⟩
  rw[hd]
  refine jB (fun c3=>⟨_,rfl,_,_,rfl,rfl,_,rfl,?_⟩) (fun c3=>xE ?_)
  ·rw[hi8]
   refine jN (pick _ [97] [97,98] _ rfl (by decide +kernel) (by decide +kernel) rfl ?_)
   unfold nmL
   rw[if_neg hn12,if_pos (of_decide_eq_true c3)]
  refine⟨_,rfl,rfl,_,rfl,?_⟩
  rw[hd]
  refine jB (fun c4=>⟨_,rfl,_,_,rfl,rfl,_,rfl,?_⟩) (fun c4=>xE ?_)
  ·rw[hi8]
   refine jN (pick _ [114,111,119] [108,101,97,100] _ rfl (by decide +kernel) (by decide +kernel) rfl ?_)
   unfold nmL
   rw[if_neg hn12,if_neg fun h=>c3 (decide_eq_true h),if_pos (of_decide_eq_true c4)]
  have l1:(mkS [jZ scr]).length=1:=rfl
  have l2:(mkS [ji scr i]).length=1:=rfl
  have lr:∀k:Nat,(y8 k [jZ scr]).length=k:=fun k=>by
   rw[zE]
   show(List.replicate k [jZ scr]).flatten.length=k
   rw[List.flatten_replicate_singleton,List.length_replicate]
  refine⟨_,rfl,_,rfl,mkS [jZ scr],t1,placeN scr,rfl,rfl,⟨by omega,by omega⟩,by omega,by omega,fun r1 n1 p1 q1 b1=>?_⟩
  refine⟨_,rfl,_,r1,mkS [ji scr i],t2,rfl,rfl,⟨p1,q1⟩,⟨by omega,by omega⟩,by show(y8 (placeN scr) [jZ scr]).length+1≤sizeLine;rw[lr];omega,fun r2 n2 p2 q2 b2=>?_⟩
  refine⟨_,rfl,_,rfl,mkS [jZ scr],t1,tailN scr,rfl,rfl,⟨by omega,by omega⟩,by omega,by omega,fun r3 n3 p3 q3 b3=>?_⟩
  refine⟨_,r2,_,r3,rfl,rfl,⟨p2,by omega⟩,⟨p3,q3⟩,?_,fun r4 n4 p4 q4 b4=>?_⟩
  ·rw[strLen_append]
   show(y8 (placeN scr) [jZ scr]).length+1+(y8 (tailN scr) [jZ scr]).length≤sizeLine
   rw[lr,lr];omega
  ·have e:y8 (placeN scr) [jZ scr]++mkS [ji scr i]++y8 (tailN scr) [jZ scr]=mkS (nmL scr i):=by
    refine qw ?_
    rw[PySem.W.KT.app_list,PySem.W.KT.app_list]
    show(List.replicate (placeN scr) [jZ scr]).flatten++[ji scr i]++(List.replicate (tailN scr) [jZ scr]).flatten=nmL scr i
    rw[List.flatten_replicate_singleton,List.flatten_replicate_singleton]
    unfold nmL
    rw[if_neg hn12,if_neg fun h=>c3 (decide_eq_true h),if_neg fun h=>c4 (decide_eq_true h)]
   show Q n4 (.tst (y8 (placeN scr) [jZ scr]++mkS [ji scr i]++y8 (tailN scr) [jZ scr]) r4) H5
   rw[e]
   exact k r4 n4 H5 p4 q4 (by omega) S05
end
end
section
def pS:Str:="P"
def qS:Str:="Q"
theorem zdW:pS=⟨#[80]⟩:=by decide
theorem zfS:qS=⟨#[81]⟩:=by decide
def by2 (z:Str)(n0 n1:List Nat):Str:=Txt.replace (Txt.replace z pS (mkS n0)) qS (mkS n1)
theorem dU (z:Str)(n0 n1:List Nat):(by2 z n0 n1).cps.toList=z5 n0 n1 z.cps.toList:=by
 unfold by2 z5
 rw[zfS,vV,zdW,vV]
 rfl
theorem zc4 (z:Str){n0 n1:List Nat}(N:Nms n0 n1):Txt.split (by2 z n0 n1) blank=((qV 32 z.cps.toList).map (z5 n0 n1)).map mkS:=by
 rw[blank_eq,zZ,dU]
 unfold z5
 rw[zce (by decide) (wd N.b (by decide)),zce (by decide) (wd N.a (by decide)),List.map_map (g:=qz 81 n1)]
 rfl
theorem zfA {z:Str}{n0 n1:List Nat}(N:Nms n0 n1):(by2 z n0 n1).length≤64*z.length:=by
 rw[zE,zE,dU]
 unfold z5
 have⟨a1,a2⟩:=jz N.a
 have⟨b1,b2⟩:=jz N.b
 have h1:=(j6 (c:=80) a1 a2 z.cps.toList).2
 have h2:=(j6 (c:=81) b1 b2 (qz 80 n0 z.cps.toList)).2
 omega
def NamesAt (n:Nat)(H:Hp)(l:Addr)(n0 n1:List Nat):Prop:=∃t0 t1:Nat,H l=some (.lst [.tst (mkS n0) t0,.tst (mkS n1) t1])∧(0<t0∧t0<n)∧(0<t1∧t1<n)
theorem NamesAt.keep {n n':Nat}{H H':Hp}{l:Addr}{n0 n1:List Nat}(h:NamesAt n H l n0 n1)(hn:n≤n')(s:∀zs,H l=some (.lst zs)→H' l=some (.lst zs)):NamesAt n' H' l n0 n1:=by
 obtain⟨t0,t1,e,h0,h1⟩:=h
 exact⟨t0,t1,s _ e,⟨h0.1,by omega⟩,⟨h1.1,by omega⟩⟩
def zfO:Spb:=fun n vs H Q=>∃(z:Str) (l:Addr) (n0 n1:List Nat),vs=[.str z,.ref l]∧NamesAt n H l n0 n1∧Nms n0 n1∧z.length≤1000∧∀n',n≤n'→Q n' (.str (by2 z n0 n1)) H
theorem zeB {c:Nat}{l:List Nat}(h:isNm (mkS l)=true)(hc:c<97):((⟨#[c]⟩:Str)==mkS l)=false:=by
 apply Bool.eq_false_iff.mpr
 intro e
 have e:=congrArg (fun x:Str=>x.cps.toList) (eq_of_beq e)
 have e:[c]=l:=e
 exact wd h hc (e▸List.mem_singleton.mpr rfl)
section
variable {P:Program}{w:World}{K:PySem.W.Frag}{mg:Str→Option Value}{base:Heap}
abbrev js:Stmt:=top 66
theorem y6:zl ["line","names"] ["line","names"] (zd js):=fsc_
theorem yq {f:Addr}{fd:FuncData}(F:Fun K "_law_by_names" "_law_by_names" js f fd)(T:Txt mg):FnOkB P w K mg base 1 f fd ["line","names"] zfO:=by
 refine F.okB y6 (fun n vs H Q h=>?_) (fun cdv A outer s H vs n Q hr h=>?_)
 ·obtain⟨z,l,n0,n1,rfl,_⟩:=h
  rfl
 ·obtain⟨z,l,n0,n1,rfl,hN,N,hz,k⟩:=h
  refine⟨_,(jw (xu (zdT PySem.F.plainAttrs_str PySem.F.slot_str_replace PySem.F.type_str_replace zbW (zdT PySem.F.plainAttrs_str PySem.F.slot_str_replace PySem.F.type_str_replace zbW (PE.b (pv 0)) (z7 kI (z7 (PE.b (zJ (ixL (K:=K) rfl) (pv 1) zg (fun _ _=>rfl))) (PA.b pa_nil)))) (z7 kI (z7 (PE.b (zJ (ixL (K:=K) rfl) (pv 1) zg (fun _ _=>rfl))) (PA.b pa_nil)))))),?_⟩
  obtain⟨t0,t1,e,h0,h1⟩:=hN
  refine⟨_,rfl,rfl,fun u0 hu0=>⟨_,rfl,l,_,0,_,rfl,rfl,SqL.of e,rfl,z,pS,u0,mkS n0,t0,rfl,rfl,?_⟩⟩
  have⟨a1,a2⟩:=jz N.a
  have⟨b1,b2⟩:=jz N.b
  have la:(mkS n0).length≤8:=by rw[zE];exact a2
  have lb:(mkS n1).length≤8:=by rw[zE];exact b2
  have hl1:(Txt.replace z pS (mkS n0)).length≤8000:=by
   rw[zE,zdW,vV]
   have h1:=(j6 (c:=80) a1 a2 z.cps.toList).2
   have h2:=zE z
   show(qz 80 n0 z.cps.toList).length≤8000
   omega
  have d0:u0≠0:=by omega
  have d1:t0≠0:=by omega
  have d2:u0≠t0:=by omega
  refine⟨d0,d1,d2,by rw[zdW];exact zeB N.a (by decide),by omega,by omega,rfl,fun u1 hu1=>?_⟩
  have g0:u1≠0:=by omega
  have g1:t1≠0:=by omega
  have g2:u1≠t1:=by omega
  exact⟨_,rfl,l,_,1,_,rfl,rfl,SqL.of e,rfl,_,qS,u1,mkS n1,t1,rfl,rfl,g0,g1,g2,by rw[zfS];exact zeB N.b (by decide),by omega,by omega,k _ (by omega)⟩
end
end
end My
namespace L2
open PySem PySem.Spec PyProof.Rows
section
theorem FnOk.good {P:Program}{w:World}{K:PySem.W.Frag}{mg:Str→Option Value}{base:Heap}{k:Nat}{f:Addr}{fd:FuncData}{ps:List Str}{sp:Sp}(F:FnOk P w K mg base (CXx P w) k f fd ps sp) :
 FnOk P w K mg base CX0 k f fd ps (fun vs H Q _=>sp vs H Q E0):=
 ⟨fun vs H Q E h=>F.len vs H Q E0 h,fun A outer s H args us vs Q E hr e0 hb r h=>codeAny_mono (F.run A outer s H args us vs Q E0 hr e0 hb r h) fun r s' hq=>by
  cases r with
  |error e=>
   obtain⟨_,_,_,_,_,_,_,_,_,_,_,_,_,_,q⟩:=hq
   exact q.elim
  |ok fl=>
   cases fl with
   |ret u=>exact hq
   |next=>exact hq
   |brk=>exact hq
   |cont=>exact hq⟩
end
end L2
namespace My
open PySem L2
section
theorem qm (a b:Str):(a++b).cps.toList=a.cps.toList++b.cps.toList:=PySem.W.KT.app_list a b
theorem bH:blank.cps.toList=[32]:=by decide
theorem zbZ {w:Str}{l:List Nat}(hw:32∉w.cps.toList)(hl:32∉l):Txt.split (w++blank++mkS l) blank=[w,mkS l]:=by
 rw[blank_eq,zZ,qm,qm,←blank_eq,bH,kL,List.append_assoc]
 show(qV 32 (w.cps.toList++32::l)).map mkS=_
 rw[yb _ hw,dP hl,List.map_cons,za1]
 rfl
theorem yJ {w:Str}{l:List Nat}(u:Str)(hw:32∉w.cps.toList)(hl:32∉l):Txt.split (w++blank++mkS l++(blank++u)) blank=w::mkS l::Txt.split u blank:=by
 rw[blank_eq,zZ,zZ,qm,qm,qm,qm,←blank_eq,bH,kL,List.append_assoc,List.append_assoc]
 show(qV 32 (w.cps.toList++32::(l++32::u.cps.toList))).map mkS=_
 rw[yb _ hw,yb _ hl,List.map_cons,List.map_cons,za1]
theorem yH {l:List Nat}(h:isNm (mkS l)=true):32∉l:=wd h (by decide)
theorem xw {rows:Rows}{w n:Str}{ns:List Int}{ws:List Str}{c:Nat}{o:Option Out}(h1:¬w="row")(h2:¬w="lead")(hg:qY rows n=some ns)(ha:asked w=some c)(hc:ws.length=c)(hn:ws.all (zW · 14)=true)(ho:wF ns w (ws.map numOf)=o):zV rows (w::n::ws)=o:=by
 show(if w="row" then _ else if w="lead" then _ else jd rows w n ws)=_
 rw[if_neg h1,if_neg h2]
 unfold jd
 rw[hg]
 dsimp only
 rw[ha]
 dsimp only
 rw[if_pos hc,if_pos hn]
 exact ho
theorem split0:Txt.split "0" blank=([("0":Str)]:List Str):=by rw[blank_eq,zZ];decide +kernel
theorem zgb:Txt.split "2" blank=([("2":Str)]:List Str):=by rw[blank_eq,zZ];decide +kernel
theorem zdX {rows:Rows}{n:Str}(hg:qY rows n=some row437):zV rows ["show",n]=some (.told [shown row437]):=
 xw (c:=0) (by decide +kernel) (by decide +kernel) hg (by decide +kernel) rfl rfl (by
  show(if("show":Str)="show" then _ else _)=_
  rw[if_pos rfl,if_pos (by decide +kernel)])
theorem zgu:numOf "0"=0:=by decide +kernel
theorem zij:numOf "2"=2:=by decide +kernel
theorem zcG {rows:Rows}{n:Str}(hg:qY rows n=some row437):zV rows ["count",n,"0"]=some (.told (yM (za5 row437 0))):=
 xw (c:=1) (by decide +kernel) (by decide +kernel) hg (by decide +kernel) rfl (by decide +kernel) (by
  show(if("count":Str)="show" then _ else if("count":Str)="count" then some (Out.told (yM (za5 row437 (numOf "0")))) else _)=_
  rw[if_neg (by decide +kernel),if_pos rfl,zgu])
theorem zcD {rows:Rows}{n:Str}(hg:qY rows n=some row437):zV rows ["order",n,"2"]=some (.told ["-3 0 2"]):=
 xw (c:=1) (by decide +kernel) (by decide +kernel) hg (by decide +kernel) rfl (by decide +kernel) (by
  show(if("order":Str)="show" then _ else if("order":Str)="count" then _ else if("order":Str)="order" then(if 0≤numOf "2"∧numOf "2"<((prs row437.length).length:Int) then(if row437=row437∧numOf "2"=2 then some (Out.told ["-3 0 2"]) else none) else(if row437.length≤10 then some (.bad 2) else none)) else _)=_
  rw[if_neg (by decide +kernel),if_neg (by decide +kernel),if_pos rfl,zij,if_pos (by decide +kernel),if_pos ⟨rfl,rfl⟩])
def Told3 (H:Hp)(q:Addr):Prop:=∃a b c,H q=some (.lst [.ref a,.ref b,.ref c])∧z9 H a [shown row437]∧z9 H b (yM (za5 row437 0))∧z9 H c ["-3 0 2"]
theorem Told3.keep {H H':Hp}{q:Addr}(h:Told3 H q)(k:∀b zs,H b=some (.lst zs)→H' b=some (.lst zs)):Told3 H' q:=by
 obtain⟨a,b,c,h1,h2,h3,h4⟩:=h
 exact⟨a,b,c,k _ _ h1,k _ _ h2,k _ _ h3,k _ _ h4⟩
def zbw (C:Addr):Sp:=fun vs H Q _=>∃(x:Addr) (l:List Nat) (rows:Rows),vs=[.ref x,.str (mkS l)]∧isNm (mkS l)=true∧DeskAt C H x rows∧rows.length≤10∧qY rows (mkS l)=some row437∧∀q H',Told3 H' q→Same H H'→Q (.ref q) H'
section
variable {P:Program}{w:World}{K:PySem.W.Frag}{mg:Str→Option Value}{base:Heap}{C T0:Addr}{cl:Nat→Addr}
abbrev x5:Stmt:=top 70
theorem sc_law_told:zl ["desk","name","told"] ["desk","name"] (zd x5):=fsc_
theorem p9 {f f1:Addr}{fd fd1:FuncData}(F:Fun K "_law_told" "_law_told" x5 f fd)(T:Txt mg)(TC:fQ K mg C)(M_ask:MethAt K C "ask" "Desk.ask" pW ["self","line"] f1 fd1)(B_ask:FnOk P w K mg base (CXx P w) 7 f1 fd1 ["self","line"] (zbI C T0 cl)) :
 FnOk P w K mg base CX0 8 f fd ["desk","name"] (zbw C):=by
 have G_ask:=B_ask.good
 refine F.ok sc_law_told (fun vs H Q E h=>?_) (fun cdv A outer s H vs Q E hr h=>?_)
 ·obtain⟨x,l,rows,rfl,_⟩:=h
  rfl
 ·obtain⟨x,l,rows,rfl,hl,hD,hrl,hg,k⟩:=h
  have hsl:=sizeLine_eq
  refine⟨_,(ze (zm (i:=2) sc_law_told.nd rfl (Or.inl rfl) (zG (za (qb (pv 0) TC.cl M_ask.mt G_ask (hr.mono (by decide)) M_ask.bd .nil zv (za (zk zh zj (pv 1)) pa_nil)) (za (qb (pv 0) TC.cl M_ask.mt G_ask (hr.mono (by decide)) M_ask.bd .nil zv (za (zk zh (zk zh zj (pv 1)) zj) pa_nil)) pa_nil))))
   (zi (zp (zk qg (pv 2) (zG (za (qb (pv 0) TC.cl M_ask.mt G_ask (hr.mono (by decide)) M_ask.bd .nil zv (za (zk zh (zk zh zj (pv 1)) zj) pa_nil)) pa_nil)))))),?_⟩
  have⟨l1,l2⟩:=jz hl
  have h32:=yH hl
  have ls:(mkS l).length=l.length:=zE _
  have c1:("show ":Str).length=5:=by decide +kernel
  have c2:("count ":Str).length=6:=by decide +kernel
  have c3:("order ":Str).length=6:=by decide +kernel
  have c4:(" 0":Str).length=2:=by decide +kernel
  have c5:(" 2":Str).length=2:=by decide +kernel
  have w1:Txt.split (("show ":Str)++mkS l) blank=([("show":Str),mkS l]:List Str):=by
   rw[show("show ":Str)=("show":Str)++blank by decide +kernel]
   exact zbZ (by decide +kernel) h32
  have w2:Txt.split (("count ":Str)++mkS l++(" 0":Str)) blank=([("count":Str),mkS l,("0":Str)]:List Str):=by
   rw[show("count ":Str)=("count":Str)++blank by decide +kernel,show(" 0":Str)=blank++("0":Str) by decide +kernel,yJ _ (by decide +kernel) h32,split0]
  have w3:Txt.split (("order ":Str)++mkS l++(" 2":Str)) blank=([("order":Str),mkS l,("2":Str)]:List Str):=by
   rw[show("order ":Str)=("order":Str)++blank by decide +kernel,show(" 2":Str)=blank++("2":Str) by decide +kernel,yJ _ (by decide +kernel) h32,zgb]
  have fld:∀{H':Hp},Same H H'→∃dx d,H' x=some (.ins C dx [("rows_by_name",.ref d)]):=fun S'=>let ⟨dx,d,_,h1,_⟩:=hD.same S';⟨dx,d,h1⟩
  obtain⟨dx,d,hx⟩:=fld (Same.refl H)
  refine⟨_,rfl,x,dx,_,rfl,hx,qe (by decide +kernel),_,rfl,_,_,rfl,rfl,by omega,x,_,rows,rfl,by rw[strLen_append];omega,hD,hrl,?_⟩
  rw[w1,zdX hg]
  intro a H1 ha S1
  obtain⟨dx1,d1,hx1⟩:=fld S1
  refine⟨_,rfl,x,dx1,_,rfl,hx1,qe (by decide +kernel),_,rfl,_,_,rfl,rfl,by omega,_,_,rfl,rfl,by rw[strLen_append];omega,x,_,rows,rfl,by rw[strLen_append,strLen_append];omega,hD.same S1,hrl,?_⟩
  rw[w2,zcG hg]
  intro b H2 hb S2
  refine⟨by show 2≤sizeLine;omega,fun t ht=>?_⟩
  dsimp only[zq]
  have S3:Same H2 (upd H2 t (.lst [.ref a,.ref b])):=Same.lay ht
  have e3:upd H2 t (.lst [.ref a,.ref b]) t=some (.lst [.ref a,.ref b]):=zb
  generalize upd H2 t (.lst [.ref a,.ref b])=H3 at S3 e3
  have S03:=(S1.trans S2).trans S3
  obtain⟨dx3,d3,hx3⟩:=fld S03
  refine⟨_,rfl,_,rfl,x,dx3,_,rfl,hx3,qe (by decide +kernel),_,rfl,_,_,rfl,rfl,by omega,_,_,rfl,rfl,by rw[strLen_append];omega,x,_,rows,rfl,by rw[strLen_append,strLen_append];omega,hD.same S03,hrl,?_⟩
  rw[w3,zcD hg]
  intro c H4 hc S4
  refine⟨by show 1≤sizeLine;omega,fun u hu=>⟨t,u,_,_,rfl,rfl,(zf (zc (S4 _ _ e3) hu)).trans (S4 _ _ e3),zb,by show 3≤sizeLine;omega,fun q hq=>?_⟩⟩
  have S5:=Same.lay (o:=.lst [.ref c]) hu
  have S6:=Same.lay (o:=.lst ([.ref a,.ref b]++[.ref c])) hq
  exact k q _ ⟨a,b,c,zb,S6 _ _ (S5 _ _ (S4 _ _ (S3 _ _ (S2 _ _ ha)))),S6 _ _ (S5 _ _ (S4 _ _ (S3 _ _ hb))),S6 _ _ (S5 _ _ hc)⟩ (S03.trans (S4.trans (S5.trans S6)))
end
end
section
def okP (p:List Nat×Nat):Bool:=decide (chk p.1=some p.2)&&decide (p.1.length≤150)&&decide (p.2<4)
def OkP (p:Str×Nat):Prop:=chk p.1.cps.toList=some p.2∧p.1.length≤150∧p.2<4
theorem zfV {p:Str×Nat}(h:okP (p.1.cps.toList,p.2)=true):OkP p:=by
 unfold okP at h
 obtain⟨h1,h3⟩:=Bool.and_eq_true_iff.mp h
 obtain⟨h1,h2⟩:=Bool.and_eq_true_iff.mp h1
 exact⟨of_decide_eq_true h1,by rw[zE];exact of_decide_eq_true h2,of_decide_eq_true h3⟩
theorem zbk {ps:List (Str×Nat)}(h:(ps.all fun p=>okP (p.1.cps.toList,p.2))=true):∀p∈ps,OkP p:=fun p hp=>zfV (List.all_eq_true.mp h p hp)
theorem zcM:((qV 124 zdk).all fun l=>okP (l,0))=true:=by decide +kernel
theorem zei:∀p∈linesL.map fun u=>(u,0),OkP p:=fun p hp=>by
 obtain⟨u,hu,rfl⟩:=List.mem_map.mp hp
 unfold linesL at hu
 rw[show bar=⟨#[124]⟩ by decide,zZ,zbt] at hu
 obtain⟨l,hl,rfl⟩:=List.mem_map.mp hu
 exact zfV (List.all_eq_true.mp zcM l hl)
theorem zcL:linesL.length≤1000:=by
 unfold linesL
 rw[show bar=⟨#[124]⟩ by decide,zZ,zbt,List.length_map]
 decide +kernel
theorem zeu:∀p∈doorsL,OkP p:=zbk (by decide +kernel)
theorem zdV:∀p∈partsL,OkP p:=zbk (by decide +kernel)
def zdA:Str:=Str.join blank (List.replicate 61 ("1":Str))
def zgg:List (Str×Nat):=[(("row P ":Str)++zdA,0),(("row Q ":Str)++zdA,0)]
theorem zdz:∀p∈zgg,OkP p:=zbk (by decide +kernel)
end
section
theorem ve (rows:Rows)(v n:Str)(r:List Str):zV rows (v::n::r)=if v="row" then jv rows n r else if v="lead" then jU rows n r else jd rows v n r:=rfl
theorem bV (ns:List Int)(v:Str)(is:List Int):wF ns v is=if v="show" then(if zge ns=true then some (.told [shown ns]) else none) else if v="count" then(match is with|[t]=>some (.told (yM (za5 ns t)))|_=>none) else if v="order" then(match is with|[n]=>if 0≤n∧n<((prs ns.length).length:Int) then(if ns=row437∧n=2 then some (.told ["-3 0 2"]) else none) else(if ns.length≤10 then some (.bad 2) else none)|_=>none) else if v="rest" then(match is with|[m,r]=>if 0≤r∧r<m then none else some (.bad 3)|_=>none) else if v="near" then(if ns=[] then some .near else none) else none:=rfl
theorem zeF {z:Str}{k:Nat}{n0 n1:List Nat}(N:Nms n0 n1)(h:OkP (z,k)):zV (qf n0) (Txt.split (by2 z n0 n1) blank)=some (.bad k):=by
 rw[zc4 z N]
 exact zc1 N h.1
def signsS:Str:="!&()*+,-./:;<=>?\x40[]^_{|}~0123456789EHMOST`"
theorem zdB:signsS.cps.toList.all (fun c=>decide (c<97∨122<c)&&c != 80&&c != 81&&c != 32)=true:=by decide +kernel
structure zcj (n0 o:List Nat)(c:Nat):Prop where
 has:c∈o
 non:c<97∨122<c
 fr:80∉o∧81∉o∧32∉o
 len:o.length≤8
theorem zgt {n0:List Nat}(h:isNm (mkS n0)=true){c k:Nat}(hc:c∈signsS.cps.toList)(hk:k<n0.length):zcj n0 (n0.take k++[c]++n0.drop (k+1)) c:=by
 have hs:=List.all_eq_true.mp zdB c hc
 obtain⟨hs,h3⟩:=Bool.and_eq_true_iff.mp hs
 obtain⟨hs,h2⟩:=Bool.and_eq_true_iff.mp hs
 obtain⟨h0,h1⟩:=Bool.and_eq_true_iff.mp hs
 have h0:=of_decide_eq_true h0
 have h1:c≠80:=by simpa using h1
 have h2:c≠81:=by simpa using h2
 have h3:c≠32:=by simpa using h3
 have⟨l1,l2⟩:=jz h
 have fr:∀d,d<97→c≠d→d∉n0.take k++[c]++n0.drop (k+1):=fun d hd hcd m=>by
  rcases List.mem_append.mp m with m|m
  ·rcases List.mem_append.mp m with m|m
   ·exact wd h hd (List.mem_of_mem_take m)
   ·exact hcd (List.mem_singleton.mp m).symm
  ·exact wd h hd (List.mem_of_mem_drop m)
 exact⟨by simp,h0,⟨fr 80 (by decide) h1,fr 81 (by decide) h2,fr 32 (by decide) h3⟩,by simp;omega⟩
theorem zd4 {n0 o:List Nat}{c:Nat}(h:zcj n0 o c):isNm (mkS o)=false:=by
 cases hq:isNm (mkS o) with
 |false=>rfl
 |true=>
  have:=za0 hq c h.has
  have:=h.non
  omega
def qH (o:List Nat):Str:=("row ":Str)++mkS o++(" 1":Str)
def zT (o:List Nat):Str:=("count ":Str)++mkS o++(" 1":Str)
theorem zat {z:Str}{n0 n1:List Nat}(h1:80∉z.cps.toList)(h2:81∉z.cps.toList):by2 z n0 n1=z:=by
 refine qw ?_
 rw[dU]
 unfold z5
 rw[qv _ h1,qv _ h2]
theorem zb5 {a o b:List Nat}{d:Nat}(ha:d∉a)(ho:d∉o)(hb:d∉b):d∉a++o++b:=fun m=>by
 rcases List.mem_append.mp m with m|m
 ·rcases List.mem_append.mp m with m|m
  ·exact ha m
  ·exact ho m
 ·exact hb m
theorem zbj {n0 n1 o:List Nat}{c:Nat}(h:zcj n0 o c):zV (qf n0) (Txt.split (by2 (qH o) n0 n1) blank)=some (.bad 0):=by
 have e:(qH o).cps.toList=("row ":Str).cps.toList++o++(" 1":Str).cps.toList:=by unfold qH;rw[qm,qm,kL]
 rw[zat (by rw[e];exact zb5 (by decide +kernel) h.fr.1 (by decide +kernel)) (by rw[e];exact zb5 (by decide +kernel) h.fr.2.1 (by decide +kernel))]
 unfold qH
 rw[show("row ":Str)=("row":Str)++blank by decide +kernel,show(" 1":Str)=blank++("1":Str) by decide +kernel,yJ _ (by decide +kernel) h.fr.2.2]
 rw[ve,if_pos rfl]
 unfold jv
 rw[zd4 h]
 rfl
theorem pf {n0 n1 o:List Nat}{c:Nat}(N:Nms n0 n1)(h:zcj n0 o c):zV (qf n0) (Txt.split (by2 (zT o) n0 n1) blank)=some (.bad 0):=by
 have e:(zT o).cps.toList=("count ":Str).cps.toList++o++(" 1":Str).cps.toList:=by unfold zT;rw[qm,qm,kL]
 rw[zat (by rw[e];exact zb5 (by decide +kernel) h.fr.1 (by decide +kernel)) (by rw[e];exact zb5 (by decide +kernel) h.fr.2.1 (by decide +kernel))]
 unfold zT
 rw[show("count ":Str)=("count":Str)++blank by decide +kernel,show(" 1":Str)=blank++("1":Str) by decide +kernel,yJ _ (by decide +kernel) h.fr.2.2]
 rw[ve,if_neg (by decide +kernel),if_neg (by decide +kernel)]
 unfold jd
 have g:qY (qf n0) (mkS o)=none:=by
  show(if mkS n0=mkS o then _ else _)=_
  rw[if_neg fun e=>by have:=zd4 h;rw[←e,N.a] at this;cases this]
  rfl
 rw[g]
def vF (n0 n1:List Nat):Rows:=qf n0++[(mkS n1,[])]
theorem zhC (n0:List Nat):qY (qf n0) (mkS n0)=some row437:=if_pos rfl
theorem no1 {n0 n1:List Nat}(N:Nms n0 n1):qY (qf n0) (mkS n1)=none:=by
 show(if mkS n0=mkS n1 then _ else _)=_
 rw[if_neg fun e=>N.ne (dG e)]
 rfl
theorem zhB (n0 n1:List Nat):qY (vF n0 n1) (mkS n0)=some row437:=if_pos rfl
theorem zb4 {n0 n1:List Nat}(N:Nms n0 n1):qY (vF n0 n1) (mkS n1)=some []:=by
 show(if mkS n0=mkS n1 then _ else _)=_
 rw[if_neg fun e=>N.ne (dG e)]
 exact if_pos rfl
theorem zdq:Txt.split "4 -7 3" blank=([("4":Str),("-7":Str),("3":Str)]:List Str):=by rw[blank_eq,zZ];decide +kernel
theorem zct:xJ ([("4":Str),("-7":Str),("3":Str)]:List Str)=true:=by decide +kernel
theorem zcu:([("4":Str),("-7":Str),("3":Str)]:List Str).map numOf=row437:=by decide +kernel
theorem zfa {n0:List Nat}(h:isNm (mkS n0)=true):zV [] (Txt.split (("row ":Str)++mkS n0++(" 4 -7 3":Str)) blank)=some (.put (mkS n0) row437):=by
 rw[show("row ":Str)=("row":Str)++blank by decide +kernel,show(" 4 -7 3":Str)=blank++("4 -7 3":Str) by decide +kernel,yJ _ (by decide +kernel) (yH h),zdq]
 rw[ve,if_pos rfl]
 unfold jv
 rw[if_pos h,if_pos zct,zcu]
 rfl
theorem zdY {n0 n1:List Nat}(N:Nms n0 n1):zV (qf n0) (Txt.split (("row ":Str)++mkS n1) blank)=some (.put (mkS n1) []):=by
 rw[show("row ":Str)=("row":Str)++blank by decide +kernel,zbZ (by decide +kernel) (yH N.b)]
 rw[ve,if_pos rfl]
 unfold jv
 rw[if_pos N.b,if_pos (by decide),no1 N]
 rfl
theorem zgq {n0 n1:List Nat}(N:Nms n0 n1):zV (qf n0) (Txt.split (("show ":Str)++mkS n1) blank)=some (.bad 0):=by
 rw[show("show ":Str)=("show":Str)++blank by decide +kernel,zbZ (by decide +kernel) (yH N.b)]
 rw[ve,if_neg (by decide +kernel),if_neg (by decide +kernel)]
 unfold jd
 rw[no1 N]
theorem zcC {n0 n1:List Nat}(N:Nms n0 n1):zV (vF n0 n1) (Txt.split (("show ":Str)++mkS n1) blank)=some (.told [shown []]):=by
 rw[show("show ":Str)=("show":Str)++blank by decide +kernel,zbZ (by decide +kernel) (yH N.b)]
 exact xw (c:=0) (by decide +kernel) (by decide +kernel) (zb4 N) (by decide +kernel) rfl rfl (by
  rw[bV,if_pos rfl,if_pos (by decide +kernel)])
theorem zaW {n0 n1:List Nat}(N:Nms n0 n1):zV (vF n0 n1) (Txt.split (("order ":Str)++mkS n1++(" 0":Str)) blank)=some (.bad 2):=by
 rw[show("order ":Str)=("order":Str)++blank by decide +kernel,show(" 0":Str)=blank++("0":Str) by decide +kernel,yJ _ (by decide +kernel) (yH N.b),split0]
 exact xw (c:=1) (by decide +kernel) (by decide +kernel) (zb4 N) (by decide +kernel) rfl (by decide +kernel) (by
  rw[bV,if_neg (by decide +kernel),if_neg (by decide +kernel),if_pos rfl]
  show(if 0≤numOf "0"∧numOf "0"<((prs ([]:List Int).length).length:Int) then(if([]:List Int)=row437∧numOf "0"=2 then some (Out.told ["-3 0 2"]) else none) else(if([]:List Int).length≤10 then some (Out.bad 2) else none))=_
  rw[zgu,if_neg (by decide +kernel),if_pos (by decide)])
theorem zcE {n0 n1:List Nat}(N:Nms n0 n1):zV (vF n0 n1) (Txt.split (("near ":Str)++mkS n1++(" 0":Str)) blank)=some .near:=by
 rw[show("near ":Str)=("near":Str)++blank by decide +kernel,show(" 0":Str)=blank++("0":Str) by decide +kernel,yJ _ (by decide +kernel) (yH N.b),split0]
 exact xw (c:=1) (by decide +kernel) (by decide +kernel) (zb4 N) (by decide +kernel) rfl (by decide +kernel) (by
  rw[bV,if_neg (by decide +kernel),if_neg (by decide +kernel),if_neg (by decide +kernel),if_neg (by decide +kernel),if_pos rfl,if_pos rfl])
theorem zeR:Txt.split "0 1" blank=([("0":Str),("1":Str)]:List Str):=by rw[blank_eq,zZ];decide +kernel
theorem zcF {n0 n1:List Nat}(N:Nms n0 n1):zV (vF n0 n1) (Txt.split (("lead ":Str)++mkS n1++(" 0 1":Str)) blank)=some (.bad 1):=by
 rw[show("lead ":Str)=("lead":Str)++blank by decide +kernel,show(" 0 1":Str)=blank++("0 1":Str) by decide +kernel,yJ _ (by decide +kernel) (yH N.b),zeR]
 rw[ve,if_neg (by decide +kernel),if_pos rfl]
 unfold jU
 rw[zb4 N]
 dsimp only
 rw[if_pos (by decide +kernel),if_pos (by decide +kernel),zgu,if_neg (by decide)]
end
end My
namespace L2
open PySem PySem.Spec PyProof.Rows
section
theorem zcl {K:PySem.W.Frag}{a acc:Addr}{xs:List V}{g:TG}{te:TEb}{N:Nat→Hp→Prop}{σ:St}{H:Hp}{n:Nat}(Pv:Nat→Nat→St→Hp→Prop)(h0:Pv 0 n σ H)(hl:∀i n σ H,i≤xs.length→Pv i n σ H→SqT K H a xs)
 (hs:∀i x n σ H,xs[i]?=some x→Pv i n σ H→g x σ H fun σ2 H2=>te n σ2 H2 fun n3 v H3=>∃ys,H3 acc=some (.lst ys)∧ys.length<sizeLine∧Pv (i+1) n3 σ2 (upd H3 acc (.lst (ys++[v])))) (hd:∀n σ H,Pv xs.length n σ H→N n H):d7 (Itt K a) g te acc N n σ H:=by
 refine⟨fun i m n σ H=>m=xs.length-i∧i≤xs.length∧Pv i n σ H,⟨xs.length,by simp,Nat.zero_le _,h0⟩,?_⟩
 rintro i m n σ H ⟨rfl,hi,p⟩
 have q:=hl i n σ H hi p
 by_cases hlt:i<xs.length
 ·refine .inr ⟨⟨xs,xs[i],q,by simp[hlt]⟩,Pv (i+1),fun n' σ' H' p'=>⟨xs.length-(i+1),by omega,rfl,hlt,p'⟩,fun x H' y=>?_⟩
  obtain⟨e,y⟩:=y
  subst e
  exact hs i x n σ _ (y xs q) p
 ·have e:i=xs.length:=by omega
  subst e
  exact .inl ⟨⟨xs,q,Nat.le_refl _⟩,hd n σ H p⟩
end
end L2
namespace My
open PySem L2
section
theorem KpD.seq {K:PySem.W.Frag}{H H':Hp}{a:Addr}{xs:List V}(e:KpD H H')(h:SqL K H a xs):SqL K H' a xs:=by
 rcases h with(h|⟨o,h⟩)|h
 ·exact .inl (.inl (e _ _ h (by intro kvs z;cases z)))
 ·exact .inl (.inr ⟨o,e _ _ h (by intro kvs z;cases z)⟩)
 ·exact .inr h
theorem KpD.tab {pos:Pos}{qual:Str}{P:Addr}{H H':Hp}(e:KpD H H')(h:TabAt pos qual P H):TabAt pos qual P H':=by
 rcases h with h|⟨c,h1,h2⟩
 ·exact .inl (e _ _ h (by intro kvs z;cases z))
 ·exact .inr ⟨c,e _ _ h1 (by intro kvs z;cases z),e _ _ h2 (by intro kvs z;cases z)⟩
theorem KpD.lst {H H':Hp}(e:KpD H H'):∀b zs,H b=some (.lst zs)→H' b=some (.lst zs):=fun b zs h=>e _ _ h (by intro kvs z;cases z)
theorem KpD.tup {H H':Hp}(e:KpD H H'):∀b zs,H b=some (.tup zs)→H' b=some (.tup zs):=fun b zs h=>e _ _ h (by intro kvs z;cases z)
theorem Same.lst {H H':Hp}(e:Same H H'):∀b zs,H b=some (.lst zs)→H' b=some (.lst zs):=fun b zs h=>e _ _ h
theorem eq_nil {K:PySem.W.Frag}{H:Hp}{n:Nat}{p q:Addr}(hp:z9 H p [])(hq:H q=some (.lst [])):EqD K H (n+1) (.ref p) (.ref q) true:=EqD.seq (c:=false) (SqL.of hp) (SqL.of hq) rfl fun j x y h _=>nomatch h
theorem kO {K:PySem.W.Frag}{H:Hp}{n:Nat}{p q:Addr}{zs:List Str}(hp:z9 H p zs)(hq:z9 H q zs):EqD K H (n+1) (.ref p) (.ref q) true:=EqD.seq (c:=false) (SqL.of hp) (SqL.of hq) rfl fun j x y h1 h2=>by
 rw[h1] at h2
 cases h2
 obtain⟨u,_,rfl⟩:=jO h1
 have:=EqD.flat (K:=K) (H:=H) (n:=n) (x:=.str u) (y:=.str u) rfl rfl
 rw[show eqV (.str u) (.str u)=true from beq_self_eq_true u] at this
 exact this
theorem zb7 {K:PySem.W.Frag}{H:Hp}{n:Nat}{p q:Addr}(hp:Told3 H p)(hq:Told3 H q):EqD K H (n+1+1) (.ref p) (.ref q) true:=by
 obtain⟨a,b,c,h1,h2,h3,h4⟩:=hp
 obtain⟨a',b',c',g1,g2,g3,g4⟩:=hq
 refine EqD.seq (c:=false) (SqL.of h1) (SqL.of g1) rfl fun j x y e1 e2=>?_
 match j,e1,e2 with
 |0,e1,e2=>cases e1;cases e2;exact kO h2 g2
 |1,e1,e2=>cases e1;cases e2;exact kO h3 g3
 |2,e1,e2=>cases e1;cases e2;exact kO h4 g4
theorem zhL {H:Hp}{q t1 t2 l z:Addr}{xs:List V}{L:List (Str×Nat)}{s1 s2:Str}(hq:H q=some (.lst xs))(tp:TupsAt gW H xs L)(n1:H t1=none)(n2:upd H t1 (.tup [.str s1,.int 0]) t2=none)(n3:upd (upd H t1 (.tup [.str s1,.int 0])) t2 (.tup [.str s2,.int 0]) l=none)
 (n4:upd (upd (upd H t1 (.tup [.str s1,.int 0])) t2 (.tup [.str s2,.int 0])) l (.lst [.ref t1,.ref t2]) z=none) :
 (upd (upd (upd H t1 (.tup [.str s1,.int 0])) t2 (.tup [.str s2,.int 0])) l (.lst [.ref t1,.ref t2]) q=some (.lst xs)∧Same H (upd (upd (upd (upd H t1 (.tup [.str s1,.int 0])) t2 (.tup [.str s2,.int 0])) l (.lst [.ref t1,.ref t2])) z (.lst (xs++[.ref t1,.ref t2]))))∧
   TupsAt gW (upd (upd (upd (upd H t1 (.tup [.str s1,.int 0])) t2 (.tup [.str s2,.int 0])) l (.lst [.ref t1,.ref t2])) z (.lst (xs++[.ref t1,.ref t2]))) (xs++[.ref t1,.ref t2]) (L++[(s1,0),(s2,0)]):=by
 have a1:=Same.lay (o:=.tup [.str s1,.int 0]) n1
 have a2:=Same.lay (o:=.tup [.str s2,.int 0]) n2
 have a3:=Same.lay (o:=.lst [.ref t1,.ref t2]) n3
 have a4:=Same.lay (o:=.lst (xs++[.ref t1,.ref t2])) n4
 have S:Same H _:=((a1.trans a2).trans a3).trans a4
 have b1:=a4 _ _ (a3 _ _ (a2 _ _ (zb (H:=H) (a:=t1) (o:=.tup [.str s1,.int 0]))))
 have b2:=a4 _ _ (a3 _ _ (zb (H:=upd H t1 (.tup [.str s1,.int 0])) (a:=t2) (o:=.tup [.str s2,.int 0])))
 refine⟨⟨a3 _ _ (a2 _ _ (a1 _ _ hq)),S⟩,?_⟩
 have:=((tp.mono fun b zs e=>S _ _ e).snoc (p:=(s1,0)) b1).snoc (p:=(s2,0)) b2
 rw[List.append_assoc,List.append_assoc] at this
 exact this
def NmTo (scr:List Int)(i n:Nat)(ys:List V):Prop:=(i=0∧ys=[])∨(i=1∧∃t:Nat,(0<t∧t<n)∧ys=[.tst (mkS (nmL scr 0)) t])∨(i=2∧∃t u:Nat,(0<t∧t<n)∧(0<u∧u<n)∧ys=[.tst (mkS (nmL scr 0)) t,.tst (mkS (nmL scr 1)) u])
theorem NmTo.len {scr:List Int}{i n:Nat}{ys:List V}(h:NmTo scr i n ys):ys.length≤2:=by
 rcases h with⟨_,rfl⟩|⟨_,t,_,rfl⟩|⟨_,t,u,_,_,rfl⟩<;>simp
theorem NmTo.step {scr:List Int}{i n n' t:Nat}{ys:List V}(h:NmTo scr i n ys)(hi:i≤1)(hn:n≤n')(h0:0<t)(h1:t<n'):NmTo scr (i+1) n' (ys++[.tst (mkS (nmL scr i)) t]):=by
 rcases h with⟨rfl,rfl⟩|⟨rfl,u,hu,rfl⟩|⟨rfl,_⟩
 ·exact .inr (.inl ⟨rfl,t,⟨h0,h1⟩,rfl⟩)
 ·exact .inr (.inr ⟨rfl,u,t,⟨hu.1,by omega⟩,⟨h0,h1⟩,rfl⟩)
 ·omega
theorem zfh {l:List Nat}{k c:Nat}(hk:k<l.length):StrLaws.sliceText (mkS l) none (some (k:Int))++(⟨#[c]⟩:Str)++StrLaws.sliceText (mkS l) (some ((k:Int)+1)) none=mkS (l.take k++[c]++l.drop (k+1)):=by
 have e1:=StrLaws.sliceText_to (x:=mkS l) (j:=(k:Int)) ⟨by omega,by show(k:Int)≤(l.length:Int);omega⟩
 have e2:=StrLaws.sliceText_from (x:=mkS l) (i:=(k:Int)+1) ⟨by omega,by show(k:Int)+1≤(l.length:Int);omega⟩
 rw[e1,e2]
 refine qw ?_
 rw[qm,qm]
 show((l.drop 0).take ((k:Int)-0).toNat)++[c]++((l.drop ((k:Int)+1).toNat).take ((l.length:Int)-((k:Int)+1)).toNat)=l.take k++[c]++l.drop (k+1)
 rw[List.drop_zero,show((k:Int)-0).toNat=k by omega,show((k:Int)+1).toNat=k+1 by omega,List.take_of_length_le (l:=l.drop (k+1)) (by rw[List.length_drop];omega)]
end
section
def zfN (K:PySem.W.Frag)(tabs:List Addr):Sp:=fun vs H Q _=>∃(a:Addr) (ns:List Int),vs=[.ref a]∧SqL K H a (ns.map V.int)∧ns.length≤63∧(∀P∈tabs,H P=some (.tbl #[]))∧∀H',Q (.bl true) H'
def zgd (K:PySem.W.Frag)(T0:Addr):Spb:=fun n vs H Q=>∃(a:Addr) (ns:List Int),vs=[.ref a]∧SqL K H a (ns.map V.int)∧ns.length≤63∧zdc T0 H∧∀n' H',Q n' (.bl true) H'
theorem dt {C T:Addr}{cl:Nat→Addr}{H:Hp}{x:Addr}{rows:Rows}{o o':Option Out}{Q:VK}{E:XK}(e:o=o')(h:OutOk C T cl H x rows o' Q E):OutOk C T cl H x rows o Q E:=e▸h
structure Std (K:PySem.W.Frag)(C T0:Addr)(scr:List Int)(a nl x st:Addr)(rows:Rows)(n:Nat)(H:Hp):Prop where
 hS:Scr K H a scr
 hN:NamesAt n H nl (nmL scr 0) (nmL scr 1)
 hD:DeskAt C H x rows
 hT:zdc T0 H
 hs:Told3 H st
theorem Std.same {K:PySem.W.Frag}{C T0:Addr}{scr:List Int}{a nl x st:Addr}{rows:Rows}{n n':Nat}{H H':Hp}(h:Std K C T0 scr a nl x st rows n H)(s:Same H H')(hn:n≤n'):Std K C T0 scr a nl x st rows n' H':=
 ⟨h.hS.same s,h.hN.keep hn fun zs e=>s _ _ e,h.hD.same s,h.hT.keep s,h.hs.keep fun b zs e=>s _ _ e⟩
theorem Std.nm {K:PySem.W.Frag}{C T0:Addr}{scr:List Int}{a nl x st:Addr}{rows:Rows}{n:Nat}{H:Hp}(h:Std K C T0 scr a nl x st rows n H):∃t0 t1:Nat,SqL K H nl [.tst (mkS (nmL scr 0)) t0,.tst (mkS (nmL scr 1)) t1]:=by
 obtain⟨t0,t1,e,_⟩:=h.hN
 exact⟨t0,t1,SqL.of e⟩
theorem Std.fld {K:PySem.W.Frag}{C T0:Addr}{scr:List Int}{a nl x st:Addr}{rows:Rows}{n:Nat}{H:Hp}(h:Std K C T0 scr a nl x st rows n H):∃dx d,H x=some (.ins C dx [("rows_by_name",.ref d)]):=by
 obtain⟨dx,d,kvs,h1,_⟩:=h.hD
 exact⟨dx,d,h1⟩
section
variable {P:Program}{w:World}{K:PySem.W.Frag}{mg:Str→Option Value}{base:Heap}{C T0 S:Addr}{cl:Nat→Addr}
abbrev zbJ:Stmt:=top 71
theorem sc_law:zl ["script","names","desk","stood","sixty_one","wrong","signs","sign","at","odd_name","line","kind"] ["script"] (zd zbJ):=fsc_
theorem zff {f f1 f2 f3 f4 f5 f6 f7 f8 m1 m2:Addr}{fd fd1 fd2 fd3 fd4 fd5 fd6 fd7 fd8 md1 md2:FuncData}(F:Fun K "law" "law" zbJ f fd)(T:Txt mg)(TC:fQ K mg C)(MK:Mk K C m1)
 (M_init:MethAt K C "__init__" "Desk.__init__" zaR ["self"] m1 md1) (G_init:FnOk P w K mg base CX0 1 m1 md1 ["self"] (zdx C))
 (M_ask:MethAt K C "ask" "Desk.ask" pW ["self","line"] m2 md2) (B_ask:FnOk P w K mg base (CXx P w) 7 m2 md2 ["self","line"] (zbI C T0 cl))
 (D__law_draw:zC K mg "_law_draw" vj ["script","k"] f1 fd1) (G__law_draw:FnOk P w K mg base CX0 1 f1 fd1 ["script","k"] (zaL K))
 (D__law_name:zC K mg "_law_name" x6 ["script","i"] f2 fd2) (G__law_name:FnOkB P w K mg base 2 f2 fd2 ["script","i"] (zbC K))
 (D__law_kind:zC K mg "_law_kind" vi ["desk","line"] f3 fd3) (G__law_kind:FnOk P w K mg base CX0 8 f3 fd3 ["desk","line"] (zdw C T0))
 (D__law_by_names:zC K mg "_law_by_names" js ["line","names"] f4 fd4) (G__law_by_names:FnOkB P w K mg base 1 f4 fd4 ["line","names"] zfO)
 (D__law_lines:zC K mg "_law_lines" vT [] f5 fd5) (G__law_lines:FnOk P w K mg base CX0 1 f5 fd5 [] (zbE linesL))
 (D__law_doors:zC K mg "_law_doors" qy [] f6 fd6) (G__law_doors:FnOk P w K mg base CX0 1 f6 fd6 [] (kF doorsL))
 (D__law_parts:zC K mg "_law_parts" qx [] f7 fd7) (G__law_parts:FnOk P w K mg base CX0 1 f7 fd7 [] (kF partsL))
 (D__law_told:zC K mg "_law_told" x5 ["desk","name"] f8 fd8) (G__law_told:FnOk P w K mg base CX0 8 f8 fd8 ["desk","name"] (zbw C)) :
 FnOkB P w K mg base 9 f fd ["script"] (zgd K T0):=by
 have G_ask:=B_ask.good
 refine F.okB sc_law (fun n vs H Q h=>?_) (fun cdv A outer s H vs n Q hr h=>?_)
 ·obtain⟨a,ns,rfl,_⟩:=h
  rfl
 ·obtain⟨a,scr,rfl,hS,hl,hT,k⟩:=h
  have hsl:=sizeLine_eq
  have hu64:=hr.units
  refine⟨_,(@zu _ _ _ _ _ (p7 (i:=1) (N:=["k","script"]) (cap:=[none,some 0]) rfl (show zU ["script","names","desk","stood","sixty_one","wrong","signs","sign","at","odd_name","line","kind"] (zd zbJ) ["k","script"] [none,some 0] _=true by decide +kernel) sc_law.nd rfl rfl (piT (K:=K) rfl (zL (za zg (za zg pa_nil)))) (fun cl C s3 H3 fp=>⟨(zr (i:=0) (show(["k","script"]:List Str).Nodup by decide +kernel) rfl (Or.inl rfl)),bh G__law_name (hr.mono (by decide)) rfl D__law_name.mg D__law_name.fn.kp D__law_name.bd (z7 (PE.b (pv 1)) (z7 (PE.b (pv 0)) (PA.b pa_nil)))⟩))
   (@zu _ _ _ _ _ (PS.b (zm (i:=2) sc_law.nd rfl (Or.inl rfl) (zdN MK G_init (hr.mono (by decide)) rfl TC.mgC M_init.bd .nil zv)))
   (@zu _ _ _ _ _ (PS.b (z4 (zw (zfi (K:=K) rfl hu64) (qb (pv 2) TC.cl M_ask.mt G_ask (hr.mono (by decide)) M_ask.bd .nil zv (za (zk zh (zk zh zj (jx (zJ (ixL (K:=K) rfl) (pv 1) zg (fun _ _=>rfl)))) zj) pa_nil)) (zG pa_nil) (zx _))
     (zi (zp yF))
     zD))
   (@zu _ _ _ _ _ (PS.b (zm (i:=3) sc_law.nd rfl (Or.inl rfl) (zo G__law_told (hr.mono (by decide)) rfl D__law_told.mg D__law_told.fn.kp D__law_told.bd .nil zv (za (pv 2) (za (jx (zJ (ixL (K:=K) rfl) (pv 1) zg (fun _ _=>rfl))) pa_nil)))))
   (@zu _ _ _ _ _ (PS.b (zm (i:=4) sc_law.nd rfl (Or.inl rfl) (gq PySem.F.plainAttrs_str PySem.F.slot_str_join PySem.F.type_str_join zbX zj (za (zk zgr (zG (za zj pa_nil)) zg) pa_nil))))
   (@zu _ _ _ _ _ (PS.b (zm (i:=5) sc_law.nd rfl (Or.inl rfl) (zk qg (zk qg (qc (N:=["line"]) (cap:=[none]) rfl (show zU ["script","names","desk","stood","sixty_one","wrong","signs","sign","at","odd_name","line","kind"] (zd zbJ) ["line"] [none] _=true by decide +kernel) (piL (K:=K) rfl (gp G__law_lines (hr.mono (by decide)) rfl D__law_lines.mg D__law_lines.fn.kp D__law_lines.bd .nil zv)) (fun cl C s3 H3 fp=>⟨(zr (i:=0) (show(["line"]:List Str).Nodup by decide +kernel) rfl (Or.inl rfl)),zO,fun it acc=>(zI rfl (zL (za (pv 0) (za zg pa_nil))))⟩)) (gp G__law_doors (hr.mono (by decide)) rfl D__law_doors.mg D__law_doors.fn.kp D__law_doors.bd .nil zv)) (gp G__law_parts (hr.mono (by decide)) rfl D__law_parts.mg D__law_parts.fn.kp D__law_parts.bd .nil zv))))
   (@zu _ _ _ _ _ (PS.b (zm (i:=5) sc_law.nd rfl (Or.inl rfl) (zk qg (pv 5) (zG (za (zL (za (zk zh zj (pv 4)) (za zg pa_nil))) (za (zL (za (zk zh zj (pv 4)) (za zg pa_nil))) pa_nil))))))
   (@zu _ _ _ _ _ (PS.b (zm (i:=6) sc_law.nd rfl (Or.inl rfl) zj))
   (@zu _ _ _ _ _ (PS.b (zm (i:=7) sc_law.nd rfl (Or.inl rfl) (zJ zek (pv 6) (zk qI (zo G__law_draw (hr.mono (by decide)) rfl D__law_draw.mg D__law_draw.fn.kp D__law_draw.bd .nil zv (za (pv 0) (za zg pa_nil))) (zt jm (by rfl) T.b_len PyProof.Rows.Boot.«len» (za (pv 6) pa_nil))) (fun _ _=>rfl))))
   (@zu _ _ _ _ _ (PS.b (zm (i:=8) sc_law.nd rfl (Or.inl rfl) (zk qI (zo G__law_draw (hr.mono (by decide)) rfl D__law_draw.mg D__law_draw.fn.kp D__law_draw.bd .nil zv (za (pv 0) (za zg pa_nil))) (zt jm (by rfl) T.b_len PyProof.Rows.Boot.«len» (za (jx (zJ (ixL (K:=K) rfl) (pv 1) zg (fun _ _=>rfl))) pa_nil)))))
   (@zu _ _ _ _ _ (PS.b (zm (i:=9) sc_law.nd rfl (Or.inl rfl) (zk zh (zk zh (wM zdy (jx (zJ (ixL (K:=K) rfl) (pv 1) zg (fun _ _=>rfl))) kH (kG (pv 8))) (pv 7)) (wM zdy (jx (zJ (ixL (K:=K) rfl) (pv 1) zg (fun _ _=>rfl))) (kG (zk vX (pv 8) zg)) kH))))
   (@zu _ _ _ _ _ (PS.b (zm (i:=5) sc_law.nd rfl (Or.inl rfl) (zk qg (pv 5) (zG (za (zL (za (zk zh (zk zh zj (pv 9)) zj) (za zg pa_nil))) (za (zL (za (zk zh (zk zh zj (pv 9)) zj) (za zg pa_nil))) pa_nil))))))
   (@zu _ _ _ _ _ (ze0 PassesOwn.never rfl (piL (K:=K) rfl (pv 5)) (pgT (K:=K) (n:=2) rfl rfl (zP (zr (i:=10) sc_law.nd rfl (Or.inl rfl)) (zP (zr (i:=11) sc_law.nd rfl (Or.inl rfl)) vq)))
     (zu (df (zeZ yG (zcz G__law_kind (hr.mono (by decide)) rfl D__law_kind.mg D__law_kind.fn.kp D__law_kind.bd zv (z7 (PE.b (pv 2)) (z7 (bh G__law_by_names (hr.mono (by decide)) rfl D__law_by_names.mg D__law_by_names.fn.kp D__law_by_names.bd (z7 (PE.b (pv 10)) (z7 (PE.b (pv 1)) (PA.b pa_nil)))) (PA.b pa_nil)))) (PE.b (pv 11)) (zx _))
       (jw (xu (PE.b yF)))
       wK)
     (jw (PS.b (z4 (PW.pt (ba (zw (zfi (K:=K) rfl hu64) (zo G__law_told (hr.mono (by decide)) rfl D__law_told.mg D__law_told.fn.kp D__law_told.bd .nil zv (za (pv 2) (za (jx (zJ (ixL (K:=K) rfl) (pv 1) zg (fun _ _=>rfl))) pa_nil))) (pv 3) (zx _)) (yl (zw yG (zo G__law_kind (hr.mono (by decide)) rfl D__law_kind.mg D__law_kind.fn.kp D__law_kind.bd .nil zv (za (pv 2) (za (zk zh zj (jx (zJ (ixL (K:=K) rfl) (pv 1) zg (fun _ _=>rfl)))) pa_nil))) zg (zx _)))))
       (zi (zp yF))
       zD)))))
   (PSs.b (ze (z4 (PW.pt (ba (zw (zfi (K:=K) rfl hu64) (qb (pv 2) TC.cl M_ask.mt G_ask (hr.mono (by decide)) M_ask.bd .nil zv (za (zk zh zj (jx (zJ (ixL (K:=K) rfl) (pv 1) zg (fun _ _=>rfl)))) pa_nil)) (zG pa_nil) (zx _)) (yl (zw (zfi (K:=K) rfl hu64) (qb (pv 2) TC.cl M_ask.mt G_ask (hr.mono (by decide)) M_ask.bd .nil zv (za (zk zh zj (jx (zJ (ixL (K:=K) rfl) (pv 1) zg (fun _ _=>rfl)))) pa_nil)) (zG (za zj pa_nil)) (zx _)))))
     (zi (zp yF))
     zD)
   (ze (z4 (zw yG (zo G__law_kind (hr.mono (by decide)) rfl D__law_kind.mg D__law_kind.fn.kp D__law_kind.bd .nil zv (za (pv 2) (za (zk zh (zk zh zj (jx (zJ (ixL (K:=K) rfl) (pv 1) zg (fun _ _=>rfl)))) zj) pa_nil))) zg (zx _))
     (zi (zp yF))
     zD)
   (ze (z4 (zw yG (zo G__law_kind (hr.mono (by decide)) rfl D__law_kind.mg D__law_kind.fn.kp D__law_kind.bd .nil zv (za (pv 2) (za (zk zh (zk zh zj (jx (zJ (ixL (K:=K) rfl) (pv 1) zg (fun _ _=>rfl)))) zj) pa_nil))) zg (zx _))
     (zi (zp yF))
     zD)
   (zi (zp (zdU (xv (zhv (K:=K) rfl hu64) (qb (pv 2) TC.cl M_ask.mt G_ask (hr.mono (by decide)) M_ask.bd .nil zv (za (zk zh (zk zh zj (jx (zJ (ixL (K:=K) rfl) (pv 1) zg (fun _ _=>rfl)))) zj) pa_nil)) (zG pa_nil) (zx _)) (zaU (xv (zhv (K:=K) rfl hu64) (zo G__law_told (hr.mono (by decide)) rfl D__law_told.mg D__law_told.fn.kp D__law_told.bd .nil zv (za (pv 2) (za (jx (zJ (ixL (K:=K) rfl) (pv 1) zg (fun _ _=>rfl))) pa_nil))) (pv 3) (zx _))))))))))))))))))))))),?_⟩
  have N:=nms scr
  have hnm0:=N.a
  have hnm1:=N.b
  have⟨la1,la2⟩:=jz hnm0
  have⟨lb1,lb2⟩:=jz hnm1
  have ls0:(mkS (nmL scr 0)).length=(nmL scr 0).length:=zE _
  have ls1:(mkS (nmL scr 1)).length=(nmL scr 1).length:=zE _
  refine⟨by show 2≤sizeLine;omega,fun tp htp=>⟨tp,rfl,⟨_,SqT.of zb⟩,fun acc hacc=>?_⟩⟩
  have htp1:upd H tp (.tup [.int 0,.int 1]) tp=some (.tup [.int 0,.int 1]):=zb
  have S01:Same H (upd H tp (.tup [.int 0,.int 1])):=Same.lay htp
  generalize upd H tp (.tup [.int 0,.int 1])=H1 at S01 htp1 hacc ⊢
  refine zcl (xs:=[.int 0,.int 1]) (fun i n' σ H'=>∃v:Option V,σ=[v,some (.ref a)]∧n≤n'∧(∃ys,H' acc=some (.lst ys)∧NmTo scr i n' ys)∧Same H1 H') ⟨none,rfl,Nat.le_refl _,⟨_,zb,.inl ⟨rfl,rfl⟩⟩,Same.lay hacc⟩ ?_ ?_ ?_
  ·rintro i n' σ H' hi ⟨v,rfl,hn,_,S1⟩
   exact SqT.of (S1 _ _ htp1)
  ·rintro i y n' σ H' hy ⟨v,rfl,hn,⟨ys,hys,nt⟩,S1⟩
   have hi:i≤1:=by have:=(List.getElem?_eq_some_iff.mp hy).1;simp only[List.length_cons,List.length_nil] at this;omega
   have hyi:y=.int (i:Int):=by
    match i,hi,hy with
    |0,_,hy=>cases hy;rfl
    |1,_,hy=>cases hy;rfl
   subst hyi
   refine⟨_,rfl,_,rfl,a,scr,i,rfl,⟨(S01.trans S1).seq hS,hl⟩,hi,fun t n2 H2 h0 h1 hn2 S2=>?_⟩
   have hys2:=S2 _ _ hys
   refine⟨ys,hys2,zS (by have:=nt.len;omega),_,rfl,by omega,⟨_,zb,nt.step hi hn2 h0 h1⟩,fun b o e=>?_⟩
   rw[zf (zc e hacc)]
   exact S2 _ _ (S1 _ _ e)
  rintro n1 σ H2 ⟨v,rfl,hn1,⟨ys,hys,nt⟩,S12⟩
  obtain⟨t0,t1,ht0,ht1,rfl⟩:∃t u:Nat,(0<t∧t<n1)∧(0<u∧u<n1)∧ys=[.tst (mkS (nmL scr 0)) t,.tst (mkS (nmL scr 1)) u]:=by
   rcases nt with⟨h,_⟩|⟨h,_⟩|⟨_,h⟩
   ·exact absurd h (by decide)
   ·exact absurd h (by decide)
   ·exact h
  have hS2:Scr K H2 a scr:=⟨(S01.trans S12).seq hS,hl⟩
  have hT2:=hT.keep (S01.trans S12)
  have hN2:NamesAt n1 H2 acc (nmL scr 0) (nmL scr 1):=⟨t0,t1,hys,ht0,ht1⟩
  clear S01 S12 hS hT htp htp1 nt hacc
  have c1:("row ":Str).length=4:=by decide +kernel
  have c2:(" 4 -7 3":Str).length=7:=by decide +kernel
  intro x dx nx ndx nex
  refine⟨x,dx,rfl,zb,fun H3 hD3 k3=>⟨rfl,?_⟩⟩
  have S23:Same H2 H3:=fun b o e=>k3 b o (by rw[zf (zc e nx),zf (zc e ndx)];exact e) (zc e nx)
  have hS3:=hS2.same S23
  have hT3:=hT2.keep S23
  have hN3:=hN2.keep (Nat.le_refl _) fun zs e=>S23 _ _ e
  clear S23 k3 hS2 hT2 hN2 hys
  dsimp only[zq]
  obtain⟨dx3,d3,kv3,hx3,hdd⟩:=id hD3
  obtain⟨_,_,hys3,_⟩:=id hN3
  refine⟨_,rfl,x,dx3,_,rfl,hx3,qe (by decide +kernel),_,rfl,acc,_,0,_,rfl,rfl,SqL.of hys3,rfl,_,_,rfl,rfl,by show("row ":Str).length+(mkS (nmL scr 0)).length≤sizeLine;omega,_,_,rfl,rfl,by rw[strLen_append];show("row ":Str).length+(mkS (nmL scr 0)).length+(" 4 -7 3":Str).length≤sizeLine;omega,x,_,[],rfl,by rw[strLen_append,strLen_append];show("row ":Str).length+(mkS (nmL scr 0)).length+(" 4 -7 3":Str).length≤10000;omega,hD3,by decide,?_⟩
  refine dt (zfa hnm0) ?_
  intro q4 H4 hq4 hD4 K34
  have hS4:Scr K H4 a scr:=⟨K34.seq hS3.1,hS3.2⟩
  have hT4:zdc T0 H4:=K34.tab hT3
  have hN4:=hN3.keep (Nat.le_refl _) fun zs e=>K34.lst _ _ e
  refine⟨by show 0≤sizeLine;omega,fun l5 hl5=>⟨0,true,by decide,eq_nil (Same.lay hl5 _ _ hq4) zb,.inl ⟨_,rfl⟩,false,rfl,xE ?_⟩⟩
  have S45:Same H4 (upd H4 l5 (.lst [])):=Same.lay hl5
  have hS5:=hS4.same S45
  have hT5:=hT4.keep S45
  have hN5:=hN4.keep (Nat.le_refl _) fun zs e=>S45 _ _ e
  have hD5:=hD4.same S45
  dsimp only[zdn]
  generalize upd H4 l5 (.lst [])=H5 at S45 hS5 hT5 hN5 hD5 ⊢
  clear S45 hS4 hT4 hN4 hD4 hq4 hl5 K34 hS3 hT3 hN3 hD3 hx3 hdd hys3
  obtain⟨_,_,hys5,_⟩:=id hN5
  refine⟨_,rfl,_,rfl,acc,_,0,_,rfl,rfl,SqL.of hys5,rfl,x,nmL scr 0,qf (nmL scr 0),rfl,hnm0,hD5,by show 1≤10;decide,zhC _,fun st H6 hst S56=>?_⟩
  dsimp only[zq]
  have D6:Std K C T0 scr a acc x st (qf (nmL scr 0)) n1 H6:=⟨hS5.same S56,hN5.keep (Nat.le_refl _) fun zs e=>S56 _ _ e,hD5.same S56,hT5.keep S56,hst⟩
  clear hS5 hT5 hN5 hD5 S56 hst hys5
  refine⟨rfl,by show 1≤sizeLine;omega,fun l1 hl1=>⟨l1,61,_,rfl,rfl,zb,by decide,by decide,by show 1*61≤sizeLine;omega,fun l2 hl2=>⟨blank,l2,List.replicate 61 ("1":Str),rfl,rfl,zb,by rw[hsl];decide +kernel,?_⟩⟩⟩
  have S67:Same H6 _:=(Same.lay (o:=.lst [.str ("1":Str)]) hl1).trans (Same.lay (o:=.lst (List.replicate (61:Int).toNat [V.str ("1":Str)]).flatten) hl2)
  have D7:=D6.same S67 (Nat.le_refl _)
  generalize upd (upd H6 l1 (.lst [.str ("1":Str)])) l2 (.lst (List.replicate (61:Int).toNat [V.str ("1":Str)]).flatten)=H7 at D7 ⊢
  clear S67 D6 hl1 hl2
  obtain⟨sx,hsx⟩:∃sx,sx=zdA:=⟨_,rfl⟩
  rw[show Str.join blank (List.replicate 61 ("1":Str))=sx from hsx.symm]
  dsimp only[zq]
  refine⟨rfl,fun ql H8 hql S78=>⟨ql,rfl,⟨_,SqL.of hql⟩,fun ac hac=>?_⟩⟩
  have D8:=D7.same S78 (Nat.le_refl _)
  have lln:=zcL
  refine qG (xs:=linesL.map V.str) (fun i σ H'=>∃v:Option V,σ=[v]∧(∃xs,H' ac=some (.lst xs)∧TupsAt gW H' xs ((linesL.take i).map fun u=>(u,0)))∧Same H8 H') ⟨none,rfl,⟨_,zb,TupsAt.nil⟩,Same.lay hac⟩ ?_ ?_ ?_
  ·rintro i σ H' hi ⟨v,rfl,_,S1⟩
   exact SqL.of (S1 _ _ hql)
  ·rintro i y σ H' hy ⟨v,rfl,⟨xs,hxs,tp⟩,S1⟩
   obtain⟨u,hu,rfl⟩:=jO hy
   have hi:i<linesL.length:=(List.getElem?_eq_some_iff.mp hu).1
   refine⟨_,rfl,by show 2≤sizeLine;omega,fun t ht=>⟨xs,(zf (zc hxs ht)).trans hxs,zS (by rw[tp.1,List.length_map,List.length_take];omega),_,rfl,?_,?_⟩⟩
   ·refine⟨_,zb,?_⟩
    have S2:Same H' (upd H' t (.tup [.str u,.int 0])):=Same.lay ht
    rw[zH (fun u=>((u,0):Str×Nat)) hu]
    refine TupsAt.mono (H:=upd H' t (.tup [.str u,.int 0])) ((tp.mono fun b zs e=>S2 _ _ e).snoc (p:=(u,0)) zb) fun b zs e=>?_
    rw[zf (wQ e (S2 _ _ hxs) (by intro z;cases z))]
    exact e
   ·exact fun b o e=>by rw[zf (zc e hac)];exact Same.lay ht _ _ (S1 _ _ e)
  rintro σ H9 ⟨v,rfl,⟨xs9,hxs9,tp9⟩,S89⟩
  rw[List.length_map,List.take_length] at tp9
  have D9:=D8.same S89 (Nat.le_refl _)
  clear D8 D7 S89 hql S78 hac
  refine⟨rfl,fun qd xd H10 hqd tpd S910=>?_⟩
  have D10:=D9.same S910 (Nat.le_refl _)
  have ldr:doorsL.length≤1000:=by decide +kernel
  have lpr:partsL.length≤1000:=by decide +kernel
  refine⟨ac,qd,_,_,rfl,rfl,S910 _ _ hxs9,hqd,by rw[tp9.1,tpd.1,List.length_map];omega,fun c1 hc1=>?_⟩
  have S1011:Same H10 (upd H10 c1 (.lst (xs9++xd))):=Same.lay hc1
  have e11:upd H10 c1 (.lst (xs9++xd)) c1=some (.lst (xs9++xd)):=zb
  have tp11:TupsAt gW (upd H10 c1 (.lst (xs9++xd))) (xs9++xd) (linesL.map (fun u=>(u,0))++doorsL):=((tp9.mono fun b zs e=>S910 _ _ e).app tpd).mono fun b zs e=>S1011 _ _ e
  have D11:=D10.same S1011 (Nat.le_refl _)
  generalize upd H10 c1 (.lst (xs9++xd))=H11 at e11 tp11 D11 ⊢
  clear D9 D10 S910 S1011 hqd tpd tp9 hxs9 hc1
  refine⟨rfl,fun qp xp H12 hqp tpp S1112=>?_⟩
  refine⟨c1,qp,_,_,rfl,rfl,S1112 _ _ e11,hqp,by rw[tp11.1,tpp.1,List.length_append,List.length_map];omega,fun c2 hc2=>?_⟩
  have S1213:Same H12 (upd H12 c2 (.lst (xs9++xd++xp))):=Same.lay hc2
  have e13:upd H12 c2 (.lst (xs9++xd++xp)) c2=some (.lst (xs9++xd++xp)):=zb
  have tp13:TupsAt gW (upd H12 c2 (.lst (xs9++xd++xp))) (xs9++xd++xp) (linesL.map (fun u=>(u,0))++doorsL++partsL):=((tp11.mono fun b zs e=>S1112 _ _ e).app tpp).mono fun b zs e=>S1213 _ _ e
  have D13:=D11.same (S1112.trans S1213) (Nat.le_refl _)
  have bx13:(xs9++xd++xp).length≤3000:=by rw[tp13.1,List.length_append,List.length_append,List.length_map];omega
  have ok13:∀p∈linesL.map (fun u=>(u,0))++doorsL++partsL,OkP p:=fun p hp=>by
   rcases List.mem_append.mp hp with hp|hp
   ·rcases List.mem_append.mp hp with hp|hp
    ·exact zei p hp
    ·exact zeu p hp
   ·exact zdV p hp
  generalize upd H12 c2 (.lst (xs9++xd++xp))=H13 at e13 tp13 D13 ⊢
  generalize xs9++xd++xp=x13 at e13 tp13 bx13
  generalize linesL.map (fun u=>((u,0):Str×Nat))++doorsL++partsL=L13 at tp13 ok13
  clear D11 S1112 S1213 hqp tpp tp11 e11 hc2
  dsimp only[zq]
  have c3:("row P ":Str).length=6:=by decide +kernel
  have c4:("row Q ":Str).length=6:=by decide +kernel
  have c5:sx.length=121:=by rw[hsx];decide +kernel
  refine⟨_,rfl,_,rfl,_,_,rfl,rfl,by show("row P ":Str).length+sx.length≤sizeLine;omega,by show 2≤sizeLine;omega,fun t1 n1'=>⟨_,rfl,_,_,rfl,rfl,by show("row Q ":Str).length+sx.length≤sizeLine;omega,by show 2≤sizeLine;omega,fun t2 n2'=>⟨by show 2≤sizeLine;omega,fun l3 n3'=>⟨c2,l3,_,_,rfl,rfl,Same.lay n3' _ _ (Same.lay n2' _ _ (Same.lay n1' _ _ e13)),zb,by show x13.length+2≤sizeLine;omega,fun z n4'=>?_⟩⟩⟩⟩
  obtain⟨⟨_,S14⟩,tp14⟩:=zhL (s1:=("row P ":Str)++sx) (s2:=("row Q ":Str)++sx) e13 tp13 n1' n2' n3' n4'
  have e14:=zb (H:=upd (upd (upd H13 t1 (.tup [.str (("row P ":Str)++sx),.int 0])) t2 (.tup [.str (("row Q ":Str)++sx),.int 0])) l3 (.lst [.ref t1,.ref t2])) (a:=z) (o:=.lst (x13++[.ref t1,.ref t2]))
  have D14:=D13.same S14 (Nat.le_refl _)
  have ok14:∀p∈L13++[(("row P ":Str)++sx,0),(("row Q ":Str)++sx,0)],OkP p:=fun p hp=>by
   rcases List.mem_append.mp hp with hp|hp
   ·exact ok13 p hp
   ·rw[hsx] at hp
    exact zdz p hp
  have bx14:(x13++[V.ref t1,.ref t2]).length≤3002:=by rw[List.length_append];show x13.length+2≤3002;omega
  show zq 5 _ _ (upd (upd (upd (upd H13 t1 (.tup [.str (("row P ":Str)++sx),.int 0])) t2 (.tup [.str (("row Q ":Str)++sx),.int 0])) l3 (.lst [.ref t1,.ref t2])) z (.lst (x13++[.ref t1,.ref t2]))) _
  generalize upd (upd (upd (upd H13 t1 (.tup [.str (("row P ":Str)++sx),.int 0])) t2 (.tup [.str (("row Q ":Str)++sx),.int 0])) l3 (.lst [.ref t1,.ref t2])) z (.lst (x13++[.ref t1,.ref t2]))=H14 at e14 tp14 D14 ⊢
  generalize x13++[V.ref t1,.ref t2]=x14 at e14 tp14 bx14
  generalize L13++[(("row P ":Str)++sx,0),(("row Q ":Str)++sx,0)]=L14 at tp14 ok14
  clear D13 S14 e13 tp13 ok13 bx13 n1' n2' n3' n4'
  dsimp only[zq]
  have lsg:signsS.length=42:=by decide +kernel
  refine⟨_,rfl,_,rfl,a,scr,30,rfl,D14.hS,by decide,by decide,fun H15 S1415=>?_⟩
  have D15:=D14.same S1415 (Nat.le_refl _)
  have e15:=S1415 _ _ e14
  have tp15:=tp14.mono fun b zs e=>S1415 _ _ e
  clear D14 e14 tp14 S1415
  obtain⟨r0,r1⟩:=mod_lt (zF scr 30) 42 (by decide)
  have hcc:∃c,signsS.cps.toList[(zF scr 30%42).toNat]?=some c:=by
   have:(zF scr 30%42).toNat<signsS.cps.toList.length:=by rw[←zE,lsg];omega
   exact⟨_,List.getElem?_eq_getElem this⟩
  obtain⟨c,hc⟩:=hcc
  have hcm:=List.mem_of_getElem? hc
  refine⟨_,rfl,signsS,rfl,by omega,_,_,rfl,rfl,by show(0:Int)<(signsS.length:Int);omega,signsS,zF scr 30%(signsS.length:Int),c,rfl,rfl,by omega,?_,?_⟩
  ·rw[show((signsS.length:Nat):Int)=42 by omega]
   obtain⟨j,hj⟩:=Int.eq_ofNat_of_zero_le r0
   rw[hj] at hc ⊢
   exact qP hc
  dsimp only[zq]
  obtain⟨t0',t1',hnl15⟩:=D15.nm
  refine⟨_,rfl,a,scr,31,rfl,D15.hS,by decide,by decide,fun H16 S1516=>?_⟩
  have D16:=D15.same S1516 (Nat.le_refl _)
  have e16:=S1516 _ _ e15
  have tp16:=tp15.mono fun b zs e=>S1516 _ _ e
  clear D15 e15 tp15 S1516 hnl15 t0' t1'
  obtain⟨t0',t1',hnl16⟩:=D16.nm
  obtain⟨q0,q1⟩:=mod_lt (zF scr 31) ((nmL scr 0).length:Int) (by omega)
  refine⟨_,rfl,acc,_,0,_,rfl,rfl,hnl16,rfl,mkS (nmL scr 0),rfl,by omega,_,_,rfl,rfl,by rw[ls0];omega,?_⟩
  dsimp only[zq]
  rw[ls0]
  obtain⟨k0,hk0⟩:=Int.eq_ofNat_of_zero_le q0
  have hk1:k0<(nmL scr 0).length:=by omega
  rw[hk0]
  have OD:=zgt hnm0 hcm hk1
  have oc:=zfh (c:=c) hk1
  have lo:=OD.len
  generalize ho:(nmL scr 0).take k0++[c]++(nmL scr 0).drop (k0+1)=o at OD oc lo
  have lso:(mkS o).length=o.length:=zE _
  have loc:(StrLaws.sliceText (mkS (nmL scr 0)) none (some (k0:Int))++(⟨#[c]⟩:Str)++StrLaws.sliceText (mkS (nmL scr 0)) (some ((k0:Int)+1)) none).length≤8:=by rw[oc,lso];exact lo
  rw[strLen_append,strLen_append] at loc
  refine⟨_,rfl,acc,_,0,_,rfl,rfl,hnl16,rfl,_,rfl,_,rfl,mkS (nmL scr 0),rfl,by omega,_,rfl,_,_,rfl,rfl,by omega,_,rfl,acc,_,0,_,rfl,rfl,hnl16,rfl,_,rfl,_,_,rfl,rfl,_,rfl,mkS (nmL scr 0),rfl,by omega,_,_,rfl,rfl,by rw[strLen_append];omega,?_⟩
  dsimp only[zq]
  rw[oc]
  have c6:(" 1":Str).length=2:=by decide +kernel
  have c7:("count ":Str).length=6:=by decide +kernel
  have lr:(qH o).length≤14:=by unfold qH;rw[strLen_append,strLen_append];omega
  have lc:(zT o).length≤16:=by unfold zT;rw[strLen_append,strLen_append];omega
  refine⟨_,rfl,_,rfl,_,_,rfl,rfl,by show("row ":Str).length+(mkS o).length≤sizeLine;omega,_,_,rfl,rfl,by rw[strLen_append];show("row ":Str).length+(mkS o).length+(" 1":Str).length≤sizeLine;omega,by show 2≤sizeLine;omega,fun t1 n1'=>⟨_,rfl,_,_,rfl,rfl,by show("count ":Str).length+(mkS o).length≤sizeLine;omega,_,_,rfl,rfl,by rw[strLen_append];show("count ":Str).length+(mkS o).length+(" 1":Str).length≤sizeLine;omega,by show 2≤sizeLine;omega,fun t2 n2'=>⟨by show 2≤sizeLine;omega,fun l3 n3'=>⟨z,l3,_,_,rfl,rfl,Same.lay n3' _ _ (Same.lay n2' _ _ (Same.lay n1' _ _ e16)),zb,by show x14.length+2≤sizeLine;omega,fun z2 n4'=>?_⟩⟩⟩⟩
  obtain⟨⟨_,S17⟩,tp17⟩:=zhL (s1:=qH o) (s2:=zT o) e16 tp16 n1' n2' n3' n4'
  have e17:=zb (H:=upd (upd (upd H16 t1 (.tup [.str (qH o),.int 0])) t2 (.tup [.str (zT o),.int 0])) l3 (.lst [.ref t1,.ref t2])) (a:=z2) (o:=.lst (x14++[.ref t1,.ref t2]))
  have D17:=D16.same S17 (Nat.le_refl _)
  have ok17:∀p∈L14++[(qH o,0),(zT o,0)],zV (qf (nmL scr 0)) (Txt.split (by2 p.1 (nmL scr 0) (nmL scr 1)) blank)=some (.bad p.2)∧p.1.length≤150∧p.2<4:=fun p hp=>by
   rcases List.mem_append.mp hp with hp|hp
   ·exact⟨zeF N (ok14 p hp),(ok14 p hp).2.1,(ok14 p hp).2.2⟩
   ·rcases List.mem_cons.mp hp with rfl|hp
    ·exact⟨zbj OD,by show(qH o).length≤150;omega,show 0<4 by decide⟩
    ·rw[List.mem_singleton.mp hp]
     exact⟨pf N OD,by show(zT o).length≤150;omega,show 0<4 by decide⟩
  show zq 5 _ _ (upd (upd (upd (upd H16 t1 (.tup [.str (qH o),.int 0])) t2 (.tup [.str (zT o),.int 0])) l3 (.lst [.ref t1,.ref t2])) z2 (.lst (x14++[.ref t1,.ref t2]))) _
  generalize upd (upd (upd (upd H16 t1 (.tup [.str (qH o),.int 0])) t2 (.tup [.str (zT o),.int 0])) l3 (.lst [.ref t1,.ref t2])) z2 (.lst (x14++[.ref t1,.ref t2]))=H17 at e17 tp17 D17 ⊢
  generalize x14++[V.ref t1,.ref t2]=x17 at e17 tp17
  generalize L14++[(qH o,0),(zT o,0)]=L17 at tp17 ok17
  clear D16 S17 e16 tp16 ok14 bx14 n1' n2' n3' n4' hnl16 loc lr lc
  dsimp only[zq]
  refine⟨_,rfl,z2,rfl,⟨_,SqL.of e17⟩,?_⟩
  refine zcX (xs:=x17) (fun i n' σ H'=>∃u v:Option V,σ=[some (.ref a),some (.ref acc),some (.ref x),some (.ref st),some (.str sx),some (.ref z2),some (.str signsS),some (.str ⟨#[c]⟩),some (.int (k0:Int)),some (.str (mkS o)),u,v]∧n1≤n'∧Same H17 H') ⟨_,_,rfl,Nat.le_refl _,Same.refl _⟩ ?_ ?_ ?_
  ·rintro i n' σ H' hi ⟨u,v,rfl,hn',S1⟩
   exact SqL.of (S1 _ _ e17)
  ·rintro i y n' σ H' hy ⟨u,v,rfl,hn',S1⟩
   have hi:i<L17.length:=by rw[←tp17.1];exact(List.getElem?_eq_some_iff.mp hy).1
   obtain⟨t,ht,ht2⟩:=tp17.2 i _ (List.getElem?_eq_getElem hi)
   rw[hy] at ht
   cases ht
   obtain⟨hask,hlen,hk4⟩:=ok17 _ (List.getElem_mem hi)
   generalize L17[i]=p at ht2 hask hlen hk4
   have D18:=D17.same S1 hn'
   have hl2:=zfA (z:=p.1) N
   refine⟨t,_,rfl,SqT.of (S1 _ _ ht2),rfl,_,_,rfl,_,_,rfl,rfl,?_⟩
   dsimp only[zq]
   refine⟨_,rfl,_,rfl,_,rfl,p.1,acc,nmL scr 0,nmL scr 1,rfl,D18.hN,N,by omega,fun n2 hn2=>⟨x,_,qf (nmL scr 0),p.2,rfl,by omega,D18.hD,by show 1≤10;decide,hask,hk4,fun H19 S19=>⟨_,rfl,rfl,_,rfl,zb1 rfl ?_⟩⟩⟩
   have D19:=D18.same S19 hn2
   obtain⟨u0,u1,hnl19⟩:=D19.nm
   refine⟨_,rfl,_,rfl,acc,_,0,_,rfl,rfl,hnl19,rfl,x,nmL scr 0,qf (nmL scr 0),rfl,hnm0,D19.hD,by show 1≤10;decide,zhC _,fun q H20 hq20 S20=>?_⟩
   have D20:=D19.same S20 (Nat.le_refl _)
   obtain⟨u0,u1,hnl20⟩:=D20.nm
   refine⟨_,rfl,1,true,by decide,zb7 hq20 D20.hs,.inl ⟨_,rfl⟩,false,rfl,xE ?_⟩
   have c8:("show ":Str).length=5:=by decide +kernel
   refine⟨_,rfl,_,rfl,acc,_,1,_,rfl,rfl,hnl20,rfl,_,_,rfl,rfl,by show("show ":Str).length+(mkS (nmL scr 1)).length≤sizeLine;omega,x,_,qf (nmL scr 0),0,rfl,by rw[strLen_append];show("show ":Str).length+(mkS (nmL scr 1)).length≤10000;omega,D20.hD,by show 1≤10;decide,zgq N,by decide,fun H21 S21=>⟨rfl,_,rfl,zb1 rfl ?_⟩⟩
   exact⟨_,_,rfl,by omega,((S1.trans S19).trans S20).trans S21⟩
  rintro n2 σ H18 ⟨u,v,rfl,hn2,S18⟩
  have D18:=D17.same S18 hn2
  clear D17 e17 tp17 ok17 S18
  have c8:("show ":Str).length=5:=by decide +kernel
  have c9:("order ":Str).length=6:=by decide +kernel
  have c10:("lead ":Str).length=5:=by decide +kernel
  have c11:("near ":Str).length=5:=by decide +kernel
  have c12:(" 0":Str).length=2:=by decide +kernel
  have c13:(" 0 1":Str).length=4:=by decide +kernel
  obtain⟨dx8,d8,hx8⟩:=D18.fld
  obtain⟨u0,u1,hnl18⟩:=D18.nm
  refine⟨_,rfl,x,dx8,_,rfl,hx8,qe (by decide +kernel),_,rfl,acc,_,1,_,rfl,rfl,hnl18,rfl,_,_,rfl,rfl,by show("row ":Str).length+(mkS (nmL scr 1)).length≤sizeLine;omega,x,_,qf (nmL scr 0),rfl,by rw[strLen_append];show("row ":Str).length+(mkS (nmL scr 1)).length≤10000;omega,D18.hD,by show 1≤10;decide,?_⟩
  refine dt (zdY N) ?_
  intro q9 H19 hq19 hD19 K19
  have D19:Std K C T0 scr a acc x st (vF (nmL scr 0) (nmL scr 1)) n2 H19:=⟨⟨K19.seq D18.hS.1,D18.hS.2⟩,D18.hN.keep (Nat.le_refl _) fun zs e=>K19.lst _ _ e,hD19,K19.tab D18.hT,D18.hs.keep K19.lst⟩
  refine⟨by show 0≤sizeLine;omega,fun l5 hl5=>⟨0,true,by decide,eq_nil (Same.lay hl5 _ _ hq19) zb,.inl ⟨_,rfl⟩,false,rfl,xE ?_⟩⟩
  have D20:=D19.same (Same.lay (o:=.lst []) hl5) (Nat.le_refl _)
  generalize upd H19 l5 (.lst [])=H20 at D20 ⊢
  clear D18 D19 hq19 hD19 K19 hl5 hx8 hnl18
  obtain⟨dx9,d9,hx9⟩:=D20.fld
  obtain⟨u0',u1',hnl20⟩:=D20.nm
  refine⟨_,rfl,x,dx9,_,rfl,hx9,qe (by decide +kernel),_,rfl,acc,_,1,_,rfl,rfl,hnl20,rfl,_,_,rfl,rfl,by show("show ":Str).length+(mkS (nmL scr 1)).length≤sizeLine;omega,x,_,vF (nmL scr 0) (nmL scr 1),rfl,by rw[strLen_append];show("show ":Str).length+(mkS (nmL scr 1)).length≤10000;omega,D20.hD,by show 2≤10;decide,?_⟩
  refine dt (zcC N) ?_
  intro q21 H21 hq21 S21
  have D21:=D20.same S21 (Nat.le_refl _)
  refine⟨by show 1≤sizeLine;omega,fun l6 hl6=>⟨0,true,by decide,kO (zs:=[("":Str)]) (Same.lay hl6 _ _ hq21) zb,.inl ⟨_,rfl⟩,false,rfl,xE ?_⟩⟩
  have D22:=D21.same (Same.lay (o:=.lst [.str ("":Str)]) hl6) (Nat.le_refl _)
  dsimp only[zdn]
  generalize upd H21 l6 (.lst [.str ("":Str)])=H22 at D22 ⊢
  clear D20 D21 hq21 S21 hl6 hx9 hnl20
  obtain⟨u0'',u1'',hnl22⟩:=D22.nm
  refine⟨_,rfl,_,rfl,acc,_,1,_,rfl,rfl,hnl22,rfl,_,_,rfl,rfl,by show("order ":Str).length+(mkS (nmL scr 1)).length≤sizeLine;omega,_,_,rfl,rfl,by rw[strLen_append];show("order ":Str).length+(mkS (nmL scr 1)).length+(" 0":Str).length≤sizeLine;omega,x,_,vF (nmL scr 0) (nmL scr 1),2,rfl,by rw[strLen_append,strLen_append];show("order ":Str).length+(mkS (nmL scr 1)).length+(" 0":Str).length≤10000;omega,D22.hD,by show 2≤10;decide,zaW N,by decide,fun H23 S23=>⟨rfl,_,rfl,zb1 rfl ?_⟩⟩
  have D23:=D22.same S23 (Nat.le_refl _)
  clear D22 S23 hnl22
  obtain⟨v0,v1,hnl23⟩:=D23.nm
  refine⟨_,rfl,_,rfl,acc,_,1,_,rfl,rfl,hnl23,rfl,_,_,rfl,rfl,by show("lead ":Str).length+(mkS (nmL scr 1)).length≤sizeLine;omega,_,_,rfl,rfl,by rw[strLen_append];show("lead ":Str).length+(mkS (nmL scr 1)).length+(" 0 1":Str).length≤sizeLine;omega,x,_,vF (nmL scr 0) (nmL scr 1),1,rfl,by rw[strLen_append,strLen_append];show("lead ":Str).length+(mkS (nmL scr 1)).length+(" 0 1":Str).length≤10000;omega,D23.hD,by show 2≤10;decide,zcF N,by decide,fun H24 S24=>⟨rfl,_,rfl,zb1 rfl ?_⟩⟩
  have D24:=D23.same S24 (Nat.le_refl _)
  clear D23 S24 hnl23
  obtain⟨dx24,d24,hx24⟩:=D24.fld
  obtain⟨w0,w1,hnl24⟩:=D24.nm
  refine⟨_,rfl,x,dx24,_,rfl,hx24,qe (by decide +kernel),_,rfl,acc,_,1,_,rfl,rfl,hnl24,rfl,_,_,rfl,rfl,by show("near ":Str).length+(mkS (nmL scr 1)).length≤sizeLine;omega,_,_,rfl,rfl,by rw[strLen_append];show("near ":Str).length+(mkS (nmL scr 1)).length+(" 0":Str).length≤sizeLine;omega,x,_,vF (nmL scr 0) (nmL scr 1),rfl,by rw[strLen_append,strLen_append];show("near ":Str).length+(mkS (nmL scr 1)).length+(" 0":Str).length≤10000;omega,D24.hD,by show 2≤10;decide,?_⟩
  refine dt (zcE N) ?_
  refine⟨D24.hT,fun q25 H25 hq25 K25=>?_⟩
  have kl:∀b zs,H24 b=some (.lst zs)→H25 b=some (.lst zs):=fun b zs e=>K25 _ _ e (D24.hT.ne e (by intro ps z;cases z))
  have hD25:=D24.hD.kp D24.hT K25
  have hN25:=D24.hN.keep (Nat.le_refl _) fun zs e=>kl _ _ e
  have hs25:=D24.hs.keep kl
  refine⟨by show 0≤sizeLine;omega,fun l7 hl7=>⟨0,true,by decide,eq_nil (Same.lay hl7 _ _ hq25) zb,.inl ⟨_,rfl⟩,_,rfl,jN ?_⟩⟩
  have S26:Same H25 (upd H25 l7 (.lst [])):=Same.lay hl7
  have hD26:=hD25.same S26
  have hN26:=hN25.keep (Nat.le_refl _) fun zs e=>S26 _ _ e
  have hs26:=hs25.keep fun b zs e=>S26 _ _ e
  generalize upd H25 l7 (.lst [])=H26 at hD26 hN26 hs26 ⊢
  clear D24 hD25 hN25 hs25 S26 hq25 K25 kl hx24 hnl24 hl7
  obtain⟨y0,y1,hnl26,_⟩:=id hN26
  refine⟨_,rfl,_,rfl,acc,_,0,_,rfl,rfl,SqL.of hnl26,rfl,x,nmL scr 0,vF (nmL scr 0) (nmL scr 1),rfl,hnm0,hD26,by show 2≤10;decide,zhB _ _,fun q H27 hq27 S27=>?_⟩
  exact⟨_,rfl,1,true,by decide,zb7 hq27 (hs26.keep fun b zs e=>S27 _ _ e),.inl ⟨_,rfl⟩,k _ _⟩
end
end
section
def e (P:Params)(x:Str)(t:Tok)(v:Value):DictEntry:={ hash:=PyData.keyHash P x,key:=.str x t,val:=v }
def dO (n:Nat)(es:List DictEntry):Obj:={ cls:=.type "dict",data:=.dict es.toArray n }
def fO (x q:Str)(st:Stmt)(m:Str)(t:Tok)(c:Addr):Obj:={ cls:=.type "function",data:=.func (PySem.W.fnOf x q (xB st) (qE st) (zd st) .none .none .none (.str m t) none (.ref c) .none) }
def cO (x:Str)(t:Tok)(q:Str)(t2 t3:Tok)(vs:List Value)(t4:Tok):Obj:={ cls:=.type "code",data:=.fields ((Value.str x t::.str q t2::.str "/claim/cut.py" t3::(vs++[Value.str "/claim/cut.py" t4])).toArray) }
def KK:Params→PySem.W.Frag:=fun P=>[
 (2,{ cls:=.none,data:=.dict #[] }),
 (3,dO 70 [e P "__name__" 165 (.str "law_toldsums_k37_desk_refused" 730),e P "__doc__" 166 (.none),e P "__package__" 167 (.none),e P "__loader__" 168 (.builtin "__main__.__loader__#opaque"),e P "__spec__" 169 (.none),e P "__annotations__" 170 (.ref 6),e P "__builtins__" 171 (.ref 4),e P "__file__" 173 (.str "/claim/cut.py" 172),e P "__cached__" 174 (.none),e P "SumError" 206 (.ref 24),e P "NoText" 222 (.ref 37),e P "NoStretch" 238 (.ref 49),e P "NoRest" 254 (.ref 61),e P "NoPlace" 270 (.ref 73),e P "NoAsk" 286 (.ref 85),e P "FIGURES" 290 (.str "0123456789" 289),e P "is_number" 296 (.ref 92),e P "row_shown" 302 (.ref 97),e P "sums_ahead" 311 (.ref 104),e P "stretches_of" 317 (.ref 109),e P "summed_stretches" 323 (.ref 114),e P "length_of" 332 (.ref 121),e P "first_of" 339 (.ref 128),e P "longest_of" 346 (.ref 135),e P "shortest_of" 353 (.ref 142),e P "all_with" 361 (.ref 147),e P "most_apart" 376 (.ref 154),e P "best_from" 382 (.ref 159),e P "count_partings" 390 (.ref 166),e P "first_parting" 403 (.ref 173),e P "partings_from" 414 (.ref 180),e P "all_within" 422 (.ref 185),e P "row_led" 433 (.ref 192),e P "in_order" 444 (.ref 199),e P "nearest" 453 (.ref 206),e P "points_of" 466 (.ref 213),e P "look_at_rest" 476 (.ref 220),e P "all_rest" 482 (.ref 225),e P "LETTERS" 486 (.str "abcdefghijklmnopqrstuvwxyz" 485),e P "NAME_LETTERS" 488 (.int 8 487),e P "ROW_NUMBERS" 490 (.int 60 489),e P "ROW_FIGURES" 492 (.int 12 491),e P "ASKED_FIGURES" 494 (.int 14 493),e P "is_name" 500 (.ref 230),e P "number_read" 508 (.ref 237),e P "row_of_words" 514 (.ref 242),e P "stretch_shown" 523 (.ref 249),e P "summed_shown" 532 (.ref 256),e P "four_rows" 538 (.ref 261),e P "answer_show" 546 (.ref 268),e P "answer_count" 554 (.ref 275),e P "answer_within" 562 (.ref 282),e P "answer_rest" 570 (.ref 289),e P "answer_order" 578 (.ref 296),e P "answer_near" 587 (.ref 303),e P "answer_apart" 593 (.ref 308),e P "answer_points" 601 (.ref 315),e P "answer_parted" 607 (.ref 320),e P "ANSWERS" 626 (.ref 321),e P "NUMBERS_ASKED" 654 (.ref 322),e P "Desk" 729 (.ref 372),e P "_law_draw" 743 (.ref 383),e P "_law_name" 757 (.ref 390),e P "_law_kind" 763 (.ref 395),e P "_law_by_names" 771 (.ref 402),e P "_law_lines" 778 (.ref 409),e P "_law_doors" 784 (.ref 414),e P "_law_parts" 790 (.ref 419),e P "_law_told" 799 (.ref 426),e P "law" 805 (.ref 431)]),
 (23,dO 3 [e P "__module__" 196 (.str "toldsums.errors" 187),e P "__firstlineno__" 200 (.int 2 199),e P "__static_attributes__" 201 (.ref 22),e P "__weakref__" 203 (.ref 25),e P "__doc__" 204 (.none)]),
 (24,{ cls:=.type "type",data:=.cls { name:="SumError",bases:=[.type "ValueError"],mro:=[.ref 24,.type "ValueError",.type "Exception",.type "BaseException",.type "object"],ns:=23,qualname:="SumError",subclasses:=[.ref 37,.ref 49,.ref 61,.ref 73,.ref 85] },slots:=#[Option.some (.ref 15),Option.none,Option.some (.str "SumError" 189),Option.some (.str "SumError" 197),Option.some (.builtin "ValueError.__new__"),Option.some (.bool Bool.true)] }),
 (25,{ cls:=.type "getset_descriptor",data:=.fields #[.str "__weakref__" 202,.ref 24,.builtin "ExceptionGroup.__weakref__",.none] }),
 (36,dO 2 [e P "__module__" 214 (.str "toldsums.errors" 187),e P "__firstlineno__" 218 (.int 4 217),e P "__static_attributes__" 219 (.ref 35),e P "__doc__" 220 (.none)]),
 (37,{ cls:=.type "type",data:=.cls { name:="NoText",bases:=[.ref 24],mro:=[.ref 37,.ref 24,.type "ValueError",.type "Exception",.type "BaseException",.type "object"],ns:=36,qualname:="NoText" },slots:=#[Option.some (.ref 28),Option.none,Option.some (.str "NoText" 207),Option.some (.str "NoText" 215),Option.some (.builtin "ValueError.__new__"),Option.some (.bool Bool.true)] }),
 (48,dO 2 [e P "__module__" 230 (.str "toldsums.errors" 187),e P "__firstlineno__" 234 (.int 6 233),e P "__static_attributes__" 235 (.ref 47),e P "__doc__" 236 (.none)]),
 (49,{ cls:=.type "type",data:=.cls { name:="NoStretch",bases:=[.ref 24],mro:=[.ref 49,.ref 24,.type "ValueError",.type "Exception",.type "BaseException",.type "object"],ns:=48,qualname:="NoStretch" },slots:=#[Option.some (.ref 40),Option.none,Option.some (.str "NoStretch" 223),Option.some (.str "NoStretch" 231),Option.some (.builtin "ValueError.__new__"),Option.some (.bool Bool.true)] }),
 (60,dO 2 [e P "__module__" 246 (.str "toldsums.errors" 187),e P "__firstlineno__" 250 (.int 8 249),e P "__static_attributes__" 251 (.ref 59),e P "__doc__" 252 (.none)]),
 (61,{ cls:=.type "type",data:=.cls { name:="NoRest",bases:=[.ref 24],mro:=[.ref 61,.ref 24,.type "ValueError",.type "Exception",.type "BaseException",.type "object"],ns:=60,qualname:="NoRest" },slots:=#[Option.some (.ref 52),Option.none,Option.some (.str "NoRest" 239),Option.some (.str "NoRest" 247),Option.some (.builtin "ValueError.__new__"),Option.some (.bool Bool.true)] }),
 (72,dO 2 [e P "__module__" 262 (.str "toldsums.errors" 187),e P "__firstlineno__" 266 (.int 10 265),e P "__static_attributes__" 267 (.ref 71),e P "__doc__" 268 (.none)]),
 (73,{ cls:=.type "type",data:=.cls { name:="NoPlace",bases:=[.ref 24],mro:=[.ref 73,.ref 24,.type "ValueError",.type "Exception",.type "BaseException",.type "object"],ns:=72,qualname:="NoPlace" },slots:=#[Option.some (.ref 64),Option.none,Option.some (.str "NoPlace" 255),Option.some (.str "NoPlace" 263),Option.some (.builtin "ValueError.__new__"),Option.some (.bool Bool.true)] }),
 (84,dO 2 [e P "__module__" 278 (.str "toldsums.errors" 187),e P "__firstlineno__" 282 (.int 12 281),e P "__static_attributes__" 283 (.ref 83),e P "__doc__" 284 (.none)]),
 (85,{ cls:=.type "type",data:=.cls { name:="NoAsk",bases:=[.ref 24],mro:=[.ref 85,.ref 24,.type "ValueError",.type "Exception",.type "BaseException",.type "object"],ns:=84,qualname:="NoAsk" },slots:=#[Option.some (.ref 76),Option.none,Option.some (.str "NoAsk" 271),Option.some (.str "NoAsk" 279),Option.some (.builtin "ValueError.__new__"),Option.some (.bool Bool.true)] }),
 (91,cO "is_number" 291 "is_number" 292 293 [.int 16 0,.int 1 0,.int 0 0,.int 0 0,.int 3 0,.ref 88,.bool Bool.true,.int 181 0,.ref 89,.none,.none,.none,.ref 90,.int 294 0,.int 16 0] 295),
 (92,fO "is_number" "is_number" (top 9) "toldsums.rows" 287 91),
 (96,cO "row_shown" 297 "row_shown" 298 299 [.int 23 0,.int 1 0,.int 0 0,.int 0 0,.int 3 0,.ref 93,.bool Bool.true,.int 181 0,.ref 94,.none,.none,.none,.ref 95,.int 300 0,.int 23 0] 301),
 (97,fO "row_shown" "row_shown" (top 10) "toldsums.rows" 287 96),
 (103,cO "sums_ahead" 303 "sums_ahead" 304 305 [.int 25 0,.int 1 0,.int 0 0,.int 0 0,.int 3 0,.ref 98,.bool Bool.true,.int 181 0,.ref 99,.none,.ref 100,.ref 101,.ref 102,.int 309 0,.int 25 0] 310),
 (104,fO "sums_ahead" "sums_ahead" (top 11) "toldsums.rows" 287 103),
 (108,cO "stretches_of" 312 "stretches_of" 313 314 [.int 30 0,.int 1 0,.int 0 0,.int 0 0,.int 3 0,.ref 105,.bool Bool.true,.int 181 0,.ref 106,.none,.none,.none,.ref 107,.int 315 0,.int 30 0] 316),
 (109,fO "stretches_of" "stretches_of" (top 12) "toldsums.rows" 287 108),
 (113,cO "summed_stretches" 318 "summed_stretches" 319 320 [.int 33 0,.int 1 0,.int 0 0,.int 0 0,.int 3 0,.ref 110,.bool Bool.true,.int 181 0,.ref 111,.none,.none,.none,.ref 112,.int 321 0,.int 33 0] 322),
 (114,fO "summed_stretches" "summed_stretches" (top 13) "toldsums.rows" 287 113),
 (120,cO "length_of" 324 "length_of" 325 326 [.int 36 0,.int 1 0,.int 0 0,.int 0 0,.int 3 0,.ref 115,.bool Bool.true,.int 181 0,.ref 116,.none,.ref 117,.ref 118,.ref 119,.int 330 0,.int 36 0] 331),
 (121,fO "length_of" "length_of" (top 14) "toldsums.rows" 287 120),
 (127,cO "first_of" 333 "first_of" 334 335 [.int 39 0,.int 1 0,.int 0 0,.int 0 0,.int 3 0,.ref 122,.bool Bool.true,.int 181 0,.ref 123,.none,.ref 124,.ref 125,.ref 126,.int 337 0,.int 39 0] 338),
 (128,fO "first_of" "first_of" (top 15) "toldsums.rows" 287 127),
 (134,cO "longest_of" 340 "longest_of" 341 342 [.int 41 0,.int 1 0,.int 0 0,.int 0 0,.int 3 0,.ref 129,.bool Bool.true,.int 181 0,.ref 130,.none,.ref 131,.ref 132,.ref 133,.int 344 0,.int 41 0] 345),
 (135,fO "longest_of" "longest_of" (top 16) "toldsums.rows" 287 134),
 (141,cO "shortest_of" 347 "shortest_of" 348 349 [.int 43 0,.int 1 0,.int 0 0,.int 0 0,.int 3 0,.ref 136,.bool Bool.true,.int 181 0,.ref 137,.none,.ref 138,.ref 139,.ref 140,.int 351 0,.int 43 0] 352),
 (142,fO "shortest_of" "shortest_of" (top 17) "toldsums.rows" 287 141),
 (146,cO "all_with" 356 "all_with" 357 358 [.int 46 0,.int 2 0,.int 0 0,.int 0 0,.int 3 0,.ref 143,.bool Bool.true,.int 181 0,.ref 144,.none,.none,.none,.ref 145,.int 359 0,.int 46 0] 360),
 (147,fO "all_with" "all_with" (top 19) "toldsums.told" 354 146),
 (153,cO "most_apart" 364 "most_apart" 365 366 [.int 49 0,.int 2 0,.int 0 0,.int 0 0,.int 3 0,.ref 148,.bool Bool.true,.int 181 0,.ref 149,.none,.ref 150,.ref 151,.ref 152,.int 374 0,.int 49 0] 375),
 (154,fO "most_apart" "most_apart" (top 21) "toldsums.apart" 362 153),
 (158,cO "best_from" 377 "best_from" 378 379 [.int 58 0,.int 3 0,.int 0 0,.int 0 0,.int 3 0,.ref 155,.bool Bool.true,.int 181 0,.ref 156,.none,.none,.none,.ref 157,.int 380 0,.int 58 0] 381),
 (159,fO "best_from" "best_from" (top 22) "toldsums.apart" 362 158),
 (165,cO "count_partings" 383 "count_partings" 384 385 [.int 67 0,.int 2 0,.int 0 0,.int 0 0,.int 3 0,.ref 160,.bool Bool.true,.int 181 0,.ref 161,.none,.ref 162,.ref 163,.ref 164,.int 388 0,.int 67 0] 389),
 (166,fO "count_partings" "count_partings" (top 23) "toldsums.apart" 362 165),
 (172,cO "first_parting" 391 "first_parting" 392 393 [.int 69 0,.int 2 0,.int 0 0,.int 0 0,.int 3 0,.ref 167,.bool Bool.true,.int 181 0,.ref 168,.none,.ref 169,.ref 170,.ref 171,.int 401 0,.int 69 0] 402),
 (173,fO "first_parting" "first_parting" (top 24) "toldsums.apart" 362 172),
 (179,cO "partings_from" 404 "partings_from" 405 406 [.int 80 0,.int 2 0,.int 0 0,.int 0 0,.int 3 0,.ref 174,.bool Bool.true,.int 181 0,.ref 175,.none,.ref 176,.ref 177,.ref 178,.int 412 0,.int 80 0] 413),
 (180,fO "partings_from" "partings_from" (top 25) "toldsums.apart" 362 179),
 (184,cO "all_within" 417 "all_within" 418 419 [.int 86 0,.int 3 0,.int 0 0,.int 0 0,.int 3 0,.ref 181,.bool Bool.true,.int 181 0,.ref 182,.none,.none,.none,.ref 183,.int 420 0,.int 86 0] 421),
 (185,fO "all_within" "all_within" (top 27) "toldsums.bounds" 415 184),
 (191,cO "row_led" 425 "row_led" 426 427 [.int 89 0,.int 3 0,.int 0 0,.int 0 0,.int 3 0,.ref 186,.bool Bool.true,.int 181 0,.ref 187,.none,.ref 188,.ref 189,.ref 190,.int 431 0,.int 89 0] 432),
 (192,fO "row_led" "row_led" (top 29) "toldsums.kept" 423 191),
 (198,cO "in_order" 436 "in_order" 437 438 [.int 94 0,.int 2 0,.int 0 0,.int 0 0,.int 3 0,.ref 193,.bool Bool.true,.int 181 0,.ref 194,.none,.ref 195,.ref 196,.ref 197,.int 442 0,.int 94 0] 443),
 (199,fO "in_order" "in_order" (top 31) "toldsums.orders" 434 198),
 (205,cO "nearest" 445 "nearest" 446 447 [.int 99 0,.int 2 0,.int 0 0,.int 0 0,.int 3 0,.ref 200,.bool Bool.true,.int 181 0,.ref 201,.none,.ref 202,.ref 203,.ref 204,.int 451 0,.int 99 0] 452),
 (206,fO "nearest" "nearest" (top 32) "toldsums.orders" 434 205),
 (212,cO "points_of" 456 "points_of" 457 458 [.int 102 0,.int 2 0,.int 0 0,.int 0 0,.int 3 0,.ref 207,.bool Bool.true,.int 181 0,.ref 208,.none,.ref 209,.ref 210,.ref 211,.int 464 0,.int 102 0] 465),
 (213,fO "points_of" "points_of" (top 34) "toldsums.papers" 454 212),
 (219,cO "look_at_rest" 469 "look_at_rest" 470 471 [.int 109 0,.int 2 0,.int 0 0,.int 0 0,.int 3 0,.ref 214,.bool Bool.true,.int 181 0,.ref 215,.none,.ref 216,.ref 217,.ref 218,.int 474 0,.int 109 0] 475),
 (220,fO "look_at_rest" "look_at_rest" (top 36) "toldsums.rests" 467 219),
 (224,cO "all_rest" 477 "all_rest" 478 479 [.int 112 0,.int 3 0,.int 0 0,.int 0 0,.int 3 0,.ref 221,.bool Bool.true,.int 181 0,.ref 222,.none,.none,.none,.ref 223,.int 480 0,.int 112 0] 481),
 (225,fO "all_rest" "all_rest" (top 37) "toldsums.rests" 467 224),
 (229,cO "is_name" 495 "is_name" 496 497 [.int 121 0,.int 1 0,.int 0 0,.int 0 0,.int 3 0,.ref 226,.bool Bool.true,.int 181 0,.ref 227,.none,.none,.none,.ref 228,.int 498 0,.int 121 0] 499),
 (230,fO "is_name" "is_name" (top 44) "toldsums.whole" 483 229),
 (236,cO "number_read" 501 "number_read" 502 503 [.int 123 0,.int 2 0,.int 0 0,.int 0 0,.int 3 0,.ref 231,.bool Bool.true,.int 181 0,.ref 232,.none,.ref 233,.ref 234,.ref 235,.int 506 0,.int 123 0] 507),
 (237,fO "number_read" "number_read" (top 45) "toldsums.whole" 483 236),
 (241,cO "row_of_words" 509 "row_of_words" 510 511 [.int 127 0,.int 1 0,.int 0 0,.int 0 0,.int 3 0,.ref 238,.bool Bool.true,.int 181 0,.ref 239,.none,.none,.none,.ref 240,.int 512 0,.int 127 0] 513),
 (242,fO "row_of_words" "row_of_words" (top 46) "toldsums.whole" 483 241),
 (248,cO "stretch_shown" 515 "stretch_shown" 516 517 [.int 131 0,.int 1 0,.int 0 0,.int 0 0,.int 3 0,.ref 243,.bool Bool.true,.int 181 0,.ref 244,.none,.ref 245,.ref 246,.ref 247,.int 521 0,.int 131 0] 522),
 (249,fO "stretch_shown" "stretch_shown" (top 47) "toldsums.whole" 483 248),
 (255,cO "summed_shown" 524 "summed_shown" 525 526 [.int 136 0,.int 1 0,.int 0 0,.int 0 0,.int 3 0,.ref 250,.bool Bool.true,.int 181 0,.ref 251,.none,.ref 252,.ref 253,.ref 254,.int 530 0,.int 136 0] 531),
 (256,fO "summed_shown" "summed_shown" (top 48) "toldsums.whole" 483 255),
 (260,cO "four_rows" 533 "four_rows" 534 535 [.int 139 0,.int 1 0,.int 0 0,.int 0 0,.int 3 0,.ref 257,.bool Bool.true,.int 181 0,.ref 258,.none,.none,.none,.ref 259,.int 536 0,.int 139 0] 537),
 (261,fO "four_rows" "four_rows" (top 49) "toldsums.whole" 483 260),
 (267,cO "answer_show" 539 "answer_show" 540 541 [.int 142 0,.int 2 0,.int 0 0,.int 0 0,.int 3 0,.ref 262,.bool Bool.true,.int 181 0,.ref 263,.none,.ref 264,.ref 265,.ref 266,.int 544 0,.int 142 0] 545),
 (268,fO "answer_show" "answer_show" (top 50) "toldsums.whole" 483 267),
 (274,cO "answer_count" 547 "answer_count" 548 549 [.int 144 0,.int 2 0,.int 0 0,.int 0 0,.int 3 0,.ref 269,.bool Bool.true,.int 181 0,.ref 270,.none,.ref 271,.ref 272,.ref 273,.int 552 0,.int 144 0] 553),
 (275,fO "answer_count" "answer_count" (top 51) "toldsums.whole" 483 274),
 (281,cO "answer_within" 555 "answer_within" 556 557 [.int 146 0,.int 2 0,.int 0 0,.int 0 0,.int 3 0,.ref 276,.bool Bool.true,.int 181 0,.ref 277,.none,.ref 278,.ref 279,.ref 280,.int 560 0,.int 146 0] 561),
 (282,fO "answer_within" "answer_within" (top 52) "toldsums.whole" 483 281),
 (288,cO "answer_rest" 563 "answer_rest" 564 565 [.int 148 0,.int 2 0,.int 0 0,.int 0 0,.int 3 0,.ref 283,.bool Bool.true,.int 181 0,.ref 284,.none,.ref 285,.ref 286,.ref 287,.int 568 0,.int 148 0] 569),
 (289,fO "answer_rest" "answer_rest" (top 53) "toldsums.whole" 483 288),
 (295,cO "answer_order" 571 "answer_order" 572 573 [.int 150 0,.int 2 0,.int 0 0,.int 0 0,.int 3 0,.ref 290,.bool Bool.true,.int 181 0,.ref 291,.none,.ref 292,.ref 293,.ref 294,.int 576 0,.int 150 0] 577),
 (296,fO "answer_order" "answer_order" (top 54) "toldsums.whole" 483 295),
 (302,cO "answer_near" 579 "answer_near" 580 581 [.int 152 0,.int 2 0,.int 0 0,.int 0 0,.int 3 0,.ref 297,.bool Bool.true,.int 181 0,.ref 298,.none,.ref 299,.ref 300,.ref 301,.int 585 0,.int 152 0] 586),
 (303,fO "answer_near" "answer_near" (top 55) "toldsums.whole" 483 302),
 (307,cO "answer_apart" 588 "answer_apart" 589 590 [.int 155 0,.int 2 0,.int 0 0,.int 0 0,.int 3 0,.ref 304,.bool Bool.true,.int 181 0,.ref 305,.none,.none,.none,.ref 306,.int 591 0,.int 155 0] 592),
 (308,fO "answer_apart" "answer_apart" (top 56) "toldsums.whole" 483 307),
 (314,cO "answer_points" 594 "answer_points" 595 596 [.int 157 0,.int 2 0,.int 0 0,.int 0 0,.int 3 0,.ref 309,.bool Bool.true,.int 181 0,.ref 310,.none,.ref 311,.ref 312,.ref 313,.int 599 0,.int 157 0] 600),
 (315,fO "answer_points" "answer_points" (top 57) "toldsums.whole" 483 314),
 (319,cO "answer_parted" 602 "answer_parted" 603 604 [.int 159 0,.int 2 0,.int 0 0,.int 0 0,.int 3 0,.ref 316,.bool Bool.true,.int 181 0,.ref 317,.none,.none,.none,.ref 318,.int 605 0,.int 159 0] 606),
 (320,fO "answer_parted" "answer_parted" (top 58) "toldsums.whole" 483 319),
 (321,dO 9 [e P "show" 608 (.ref 268),e P "count" 609 (.ref 275),e P "within" 610 (.ref 282),e P "rest" 611 (.ref 289),e P "order" 612 (.ref 296),e P "near" 613 (.ref 303),e P "apart" 614 (.ref 308),e P "points" 615 (.ref 315),e P "parted" 616 (.ref 320)]),
 (322,dO 9 [e P "show" 627 (.int 0 628),e P "count" 629 (.int 1 630),e P "within" 631 (.int 2 632),e P "rest" 633 (.int 2 634),e P "order" 635 (.int 1 636),e P "near" 637 (.int 1 638),e P "apart" 639 (.int 1 640),e P "points" 641 (.int 1 642),e P "parted" 643 (.int 1 644)]),
 (335,cO "__init__" 667 "Desk.__init__" 668 669 [.int 167 0,.int 1 0,.int 0 0,.int 0 0,.int 3 0,.ref 330,.bool Bool.true,.int 181 0,.ref 331,.none,.ref 332,.ref 333,.ref 334,.int 671 0,.int 167 0] 672),
 (336,fO "__init__" "Desk.__init__" (inClass (top 61) 0) "toldsums.whole" 483 335),
 (342,cO "ask" 674 "Desk.ask" 675 676 [.int 170 0,.int 2 0,.int 0 0,.int 0 0,.int 3 0,.ref 337,.bool Bool.true,.int 181 0,.ref 338,.none,.ref 339,.ref 340,.ref 341,.int 683 0,.int 170 0] 684),
 (343,fO "ask" "Desk.ask" (inClass (top 61) 1) "toldsums.whole" 483 342),
 (349,cO "put_row" 686 "Desk.put_row" 687 688 [.int 181 0,.int 3 0,.int 0 0,.int 0 0,.int 3 0,.ref 344,.bool Bool.true,.int 181 0,.ref 345,.none,.ref 346,.ref 347,.ref 348,.int 692 0,.int 181 0] 693),
 (350,fO "put_row" "Desk.put_row" (inClass (top 61) 2) "toldsums.whole" 483 349),
 (356,cO "lead_in_row" 695 "Desk.lead_in_row" 696 697 [.int 187 0,.int 3 0,.int 0 0,.int 0 0,.int 3 0,.ref 351,.bool Bool.true,.int 181 0,.ref 352,.none,.ref 353,.ref 354,.ref 355,.int 704 0,.int 187 0] 705),
 (357,fO "lead_in_row" "Desk.lead_in_row" (inClass (top 61) 3) "toldsums.whole" 483 356),
 (361,cO "answer" 707 "Desk.answer" 708 709 [.int 196 0,.int 4 0,.int 0 0,.int 0 0,.int 3 0,.ref 358,.bool Bool.true,.int 181 0,.ref 359,.none,.none,.none,.ref 360,.int 710 0,.int 196 0] 711),
 (362,fO "answer" "Desk.answer" (inClass (top 61) 4) "toldsums.whole" 483 361),
 (368,cO "row_named" 713 "Desk.row_named" 714 715 [.int 204 0,.int 2 0,.int 0 0,.int 0 0,.int 3 0,.ref 363,.bool Bool.true,.int 181 0,.ref 364,.none,.ref 365,.ref 366,.ref 367,.int 718 0,.int 204 0] 719),
 (369,fO "row_named" "Desk.row_named" (inClass (top 61) 5) "toldsums.whole" 483 368),
 (371,dO 4 [e P "__module__" 662 (.str "toldsums.whole" 483),e P "__firstlineno__" 666 (.int 165 665),e P "__init__" 673 (.ref 336),e P "ask" 685 (.ref 343),e P "put_row" 694 (.ref 350),e P "lead_in_row" 706 (.ref 357),e P "answer" 712 (.ref 362),e P "row_named" 720 (.ref 369),e P "__static_attributes__" 722 (.ref 370),e P "__dict__" 724 (.ref 373),e P "__weakref__" 726 (.ref 374),e P "__doc__" 727 (.none)]),
 (372,{ cls:=.type "type",data:=.cls { name:="Desk",bases:=[.type "object"],mro:=[.ref 372,.type "object"],ns:=371,qualname:="Desk" },slots:=#[Option.none,Option.none,Option.some (.str "Desk" 655),Option.some (.str "Desk" 663),Option.some (.builtin "object.__new__"),Option.some (.bool Bool.true)] }),
 (373,{ cls:=.type "getset_descriptor",data:=.fields #[.str "__dict__" 723,.ref 372,.builtin "function.__dict__",.builtin "function.__dict__#set"] }),
 (374,{ cls:=.type "getset_descriptor",data:=.fields #[.str "__weakref__" 725,.ref 372,.builtin "ExceptionGroup.__weakref__",.none] }),
 (382,cO "_law_draw" 732 "_law_draw" 733 734 [.int 209 0,.int 2 0,.int 0 0,.int 0 0,.int 3 0,.ref 377,.bool Bool.true,.int 181 0,.ref 378,.none,.ref 379,.ref 380,.ref 381,.int 741 0,.int 209 0] 742),
 (383,fO "_law_draw" "_law_draw" (top 63) "law_toldsums_k37_desk_refused" 730 382),
 (389,cO "_law_name" 744 "_law_name" 745 746 [.int 219 0,.int 2 0,.int 0 0,.int 0 0,.int 3 0,.ref 384,.bool Bool.true,.int 181 0,.ref 385,.none,.ref 386,.ref 387,.ref 388,.int 755 0,.int 219 0] 756),
 (390,fO "_law_name" "_law_name" (top 64) "law_toldsums_k37_desk_refused" 730 389),
 (394,cO "_law_kind" 758 "_law_kind" 759 760 [.int 233 0,.int 2 0,.int 0 0,.int 0 0,.int 3 0,.ref 391,.bool Bool.true,.int 181 0,.ref 392,.none,.none,.none,.ref 393,.int 761 0,.int 233 0] 762),
 (395,fO "_law_kind" "_law_kind" (top 65) "law_toldsums_k37_desk_refused" 730 394),
 (401,cO "_law_by_names" 764 "_law_by_names" 765 766 [.int 247 0,.int 2 0,.int 0 0,.int 0 0,.int 3 0,.ref 396,.bool Bool.true,.int 181 0,.ref 397,.none,.ref 398,.ref 399,.ref 400,.int 769 0,.int 247 0] 770),
 (402,fO "_law_by_names" "_law_by_names" (top 66) "law_toldsums_k37_desk_refused" 730 401),
 (408,cO "_law_lines" 772 "_law_lines" 773 774 [.int 249 0,.int 0 0,.int 0 0,.int 0 0,.int 3 0,.ref 403,.bool Bool.true,.int 181 0,.ref 404,.none,.ref 405,.ref 406,.ref 407,.int 776 0,.int 249 0] 777),
 (409,fO "_law_lines" "_law_lines" (top 67) "law_toldsums_k37_desk_refused" 730 408),
 (413,cO "_law_doors" 779 "_law_doors" 780 781 [.int 261 0,.int 0 0,.int 0 0,.int 0 0,.int 3 0,.ref 410,.bool Bool.true,.int 181 0,.ref 411,.none,.none,.none,.ref 412,.int 782 0,.int 261 0] 783),
 (414,fO "_law_doors" "_law_doors" (top 68) "law_toldsums_k37_desk_refused" 730 413),
 (418,cO "_law_parts" 785 "_law_parts" 786 787 [.int 274 0,.int 0 0,.int 0 0,.int 0 0,.int 3 0,.ref 415,.bool Bool.true,.int 181 0,.ref 416,.none,.none,.none,.ref 417,.int 788 0,.int 274 0] 789),
 (419,fO "_law_parts" "_law_parts" (top 69) "law_toldsums_k37_desk_refused" 730 418),
 (425,cO "_law_told" 791 "_law_told" 792 793 [.int 279 0,.int 2 0,.int 0 0,.int 0 0,.int 3 0,.ref 420,.bool Bool.true,.int 181 0,.ref 421,.none,.ref 422,.ref 423,.ref 424,.int 797 0,.int 279 0] 798),
 (426,fO "_law_told" "_law_told" (top 70) "law_toldsums_k37_desk_refused" 730 425),
 (430,cO "law" 800 "law" 801 802 [.int 282 0,.int 1 0,.int 0 0,.int 0 0,.int 3 0,.ref 427,.bool Bool.true,.int 181 0,.ref 428,.none,.none,.none,.ref 429,.int 803 0,.int 282 0] 804),
 (431,fO "law" "law" (top 71) "law_toldsums_k37_desk_refused" 730 430)]
def qq:Program:={ PySem.Challenge.pw_toldsums_k37_desk_refused with main:={ PySem.Challenge.pw_toldsums_k37_desk_refused.main with body:=[top 1,top 2,top 3,top 4,top 5,top 6,top 8,top 9,top 10,top 11,top 12,top 13,top 14,top 15,top 16,top 17,top 19,top 21,top 22,top 23,top 24,top 25,top 27,top 29,top 31,top 32,top 34,top 36,top 37,top 39,top 40,top 41,top 42,top 43,top 44,top 45,top 46,top 47,top 48,top 49,top 50,top 51,top 52,top 53,top 54,top 55,top 56,top 57,top 58,top 59,top 60,top 61,top 63,top 64,top 65,top 66,top 67,top 68,top 69,top 70,top 71] } }
def HK:PySem.W.Hook:=PySem.W.kmHook KK [2,3,23,24,25,36,37,48,49,60,61,72,73,84,85,91,92,96,97,103,104,108,109,113,114,120,121,127,128,134,135,141,142,146,147,153,154,158,159,165,166,172,173,179,180,184,185,191,192,198,199,205,206,212,213,219,220,224,225,229,230,236,237,241,242,248,249,255,256,260,261,267,268,274,275,281,282,288,289,295,296,302,303,307,308,314,315,319,320,321,322,335,336,342,343,349,350,356,357,361,362,368,369,371,372,373,374,382,383,389,390,394,395,401,402,408,409,413,414,418,419,425,426,430,431] (fun _=>by kernel_rfl) [201]
def fdO (x q:Str)(st:Stmt)(m:Str)(t:Tok)(c:Addr):FuncData:=PySem.W.fnOf x q (xB st) (qE st) (zd st) .none .none .none (.str m t) none (.ref c) .none
theorem zN {K:PySem.W.Frag}{f:Addr}{x q:Str}{st:Stmt}{m:Str}{t:Tok}{c:Addr}(l:K.lookup f=some (fO x q st m t c))(h:PySem.W.codeIn K (.ref c) q=true)(k:PySem.W.keepIn K (.ref f)=true):Fun K x q st f (fdO x q st m t c):=⟨⟨_,_,_,_,_,_,_,_,_,rfl,l,h⟩,k⟩
theorem qF {K:PySem.W.Frag}{f:Addr}{fd:FuncData}{x:Str}{st:Stmt}{ps:List Str}{h:Heap}{mg:Str→Option Value}(X:K.In h)(G:h.Ns mainGlobals mg)(F:Fun K x x st f fd)(b:Binds K fd ps [])(e:PySem.W.nsIn K mainGlobals x=some (some (.ref f))):zC K mg x st ps f fd:=⟨F,PySem.W.mg_of X G e,b⟩
theorem zcJ {K:PySem.W.Frag}{C f:Addr}{fd:FuncData}{x q:Str}{st:Stmt}{ps:List Str}(F:Fun K x q st f fd)(b:Binds K fd ps [])(e:PySem.W.findIn K (.ref C) x=some (some (.ref f)))(i:PySem.W.isFn K (.ref f)=true):MethAt K C x q st ps f fd:=⟨F,⟨e,i,F.kp⟩,b⟩
section
variable (P:Params)
abbrev wX:=fdO "is_number" "is_number" (top 9) "toldsums.rows" 287 91
theorem xg:Fun (KK P) "is_number" "is_number" (top 9) 92 wX:=zN (by kernel_rfl) (by kernel_rfl) (by kernel_rfl)
theorem zax:Binds (KK P) wX ["word"] []:=(xg P).binds fun _ _ _ _ _ _ us hl=>match us,hl with|[_],_=>rfl
abbrev wV:=fdO "row_shown" "row_shown" (top 10) "toldsums.rows" 287 96
theorem xf:Fun (KK P) "row_shown" "row_shown" (top 10) 97 wV:=zN (by kernel_rfl) (by kernel_rfl) (by kernel_rfl)
theorem zav:Binds (KK P) wV ["row"] []:=(xf P).binds fun _ _ _ _ _ _ us hl=>match us,hl with|[_],_=>rfl
abbrev xP:=fdO "sums_ahead" "sums_ahead" (top 11) "toldsums.rows" 287 103
theorem yf:Fun (KK P) "sums_ahead" "sums_ahead" (top 11) 104 xP:=zN (by kernel_rfl) (by kernel_rfl) (by kernel_rfl)
theorem dY:Binds (KK P) xP ["row"] []:=(yf P).binds fun _ _ _ _ _ _ us hl=>match us,hl with|[_],_=>rfl
abbrev vK:=fdO "stretches_of" "stretches_of" (top 12) "toldsums.rows" 287 108
theorem xb:Fun (KK P) "stretches_of" "stretches_of" (top 12) 109 vK:=zN (by kernel_rfl) (by kernel_rfl) (by kernel_rfl)
theorem g8:Binds (KK P) vK ["row"] []:=(xb P).binds fun _ _ _ _ _ _ us hl=>match us,hl with|[_],_=>rfl
abbrev jj:=fdO "summed_stretches" "summed_stretches" (top 13) "toldsums.rows" 287 113
theorem qr:Fun (KK P) "summed_stretches" "summed_stretches" (top 13) 114 jj:=zN (by kernel_rfl) (by kernel_rfl) (by kernel_rfl)
theorem wo:Binds (KK P) jj ["row"] []:=(qr P).binds fun _ _ _ _ _ _ us hl=>match us,hl with|[_],_=>rfl
abbrev wW:=fdO "length_of" "length_of" (top 14) "toldsums.rows" 287 120
theorem yV:Fun (KK P) "length_of" "length_of" (top 14) 121 wW:=zN (by kernel_rfl) (by kernel_rfl) (by kernel_rfl)
theorem zaw:Binds (KK P) wW ["stretch"] []:=(yV P).binds fun _ _ _ _ _ _ us hl=>match us,hl with|[_],_=>rfl
abbrev yP:=fdO "first_of" "first_of" (top 15) "toldsums.rows" 287 127
theorem wz:Fun (KK P) "first_of" "first_of" (top 15) 128 yP:=zN (by kernel_rfl) (by kernel_rfl) (by kernel_rfl)
theorem zbf:Binds (KK P) yP ["stretches"] []:=(wz P).binds fun _ _ _ _ _ _ us hl=>match us,hl with|[_],_=>rfl
abbrev xQ:=fdO "longest_of" "longest_of" (top 16) "toldsums.rows" 287 134
theorem vz:Fun (KK P) "longest_of" "longest_of" (top 16) 135 xQ:=zN (by kernel_rfl) (by kernel_rfl) (by kernel_rfl)
theorem dZ:Binds (KK P) xQ ["stretches"] []:=(vz P).binds fun _ _ _ _ _ _ us hl=>match us,hl with|[_],_=>rfl
abbrev vZ:=fdO "shortest_of" "shortest_of" (top 17) "toldsums.rows" 287 141
theorem j0:Fun (KK P) "shortest_of" "shortest_of" (top 17) 142 vZ:=zN (by kernel_rfl) (by kernel_rfl) (by kernel_rfl)
theorem fJ:Binds (KK P) vZ ["stretches"] []:=(j0 P).binds fun _ _ _ _ _ _ us hl=>match us,hl with|[_],_=>rfl
abbrev yQ:=fdO "all_with" "all_with" (top 19) "toldsums.told" 354 146
theorem wA:Fun (KK P) "all_with" "all_with" (top 19) 147 yQ:=zN (by kernel_rfl) (by kernel_rfl) (by kernel_rfl)
theorem zbg:Binds (KK P) yQ ["row","total"] []:=(wA P).binds fun _ _ _ _ _ _ us hl=>match us,hl with|[_,_],_=>rfl
abbrev gN:=fdO "row_led" "row_led" (top 29) "toldsums.kept" 423 191
theorem yD:Fun (KK P) "row_led" "row_led" (top 29) 192 gN:=zN (by kernel_rfl) (by kernel_rfl) (by kernel_rfl)
theorem zc7:Binds (KK P) gN ["row","place","number"] []:=(yD P).binds fun _ _ _ _ _ _ us hl=>match us,hl with|[_,_,_],_=>rfl
abbrev yO:=fdO "in_order" "in_order" (top 31) "toldsums.orders" 434 198
theorem vA:Fun (KK P) "in_order" "in_order" (top 31) 199 yO:=zN (by kernel_rfl) (by kernel_rfl) (by kernel_rfl)
theorem zbe:Binds (KK P) yO ["row","number"] []:=(vA P).binds fun _ _ _ _ _ _ us hl=>match us,hl with|[_,_],_=>rfl
abbrev vx:=fdO "nearest" "nearest" (top 32) "toldsums.orders" 434 205
theorem zde:Fun (KK P) "nearest" "nearest" (top 32) 206 vx:=zN (by kernel_rfl) (by kernel_rfl) (by kernel_rfl)
theorem zc8:Binds (KK P) vx ["row","total"] []:=(zde P).binds fun _ _ _ _ _ _ us hl=>match us,hl with|[_,_],_=>rfl
abbrev vM:=fdO "look_at_rest" "look_at_rest" (top 36) "toldsums.rests" 467 219
theorem jI:Fun (KK P) "look_at_rest" "look_at_rest" (top 36) 220 vM:=zN (by kernel_rfl) (by kernel_rfl) (by kernel_rfl)
theorem fb:Binds (KK P) vM ["m","rest"] []:=(jI P).binds fun _ _ _ _ _ _ us hl=>match us,hl with|[_,_],_=>rfl
abbrev yR:=fdO "all_rest" "all_rest" (top 37) "toldsums.rests" 467 224
theorem wB:Fun (KK P) "all_rest" "all_rest" (top 37) 225 yR:=zN (by kernel_rfl) (by kernel_rfl) (by kernel_rfl)
theorem zbh:Binds (KK P) yR ["row","m","rest"] []:=(wB P).binds fun _ _ _ _ _ _ us hl=>match us,hl with|[_,_,_],_=>rfl
abbrev gO:=fdO "is_name" "is_name" (top 44) "toldsums.whole" 483 229
theorem yE:Fun (KK P) "is_name" "is_name" (top 44) 230 gO:=zN (by kernel_rfl) (by kernel_rfl) (by kernel_rfl)
theorem zc9:Binds (KK P) gO ["word"] []:=(yE P).binds fun _ _ _ _ _ _ us hl=>match us,hl with|[_],_=>rfl
abbrev v7:=fdO "number_read" "number_read" (top 45) "toldsums.whole" 483 236
theorem j3:Fun (KK P) "number_read" "number_read" (top 45) 237 v7:=zN (by kernel_rfl) (by kernel_rfl) (by kernel_rfl)
theorem fK:Binds (KK P) v7 ["word","figures"] []:=(j3 P).binds fun _ _ _ _ _ _ us hl=>match us,hl with|[_,_],_=>rfl
abbrev vL:=fdO "row_of_words" "row_of_words" (top 46) "toldsums.whole" 483 241
theorem jH:Fun (KK P) "row_of_words" "row_of_words" (top 46) 242 vL:=zN (by kernel_rfl) (by kernel_rfl) (by kernel_rfl)
theorem g9:Binds (KK P) vL ["words"] []:=(jH P).binds fun _ _ _ _ _ _ us hl=>match us,hl with|[_],_=>rfl
abbrev j9:=fdO "stretch_shown" "stretch_shown" (top 47) "toldsums.whole" 483 248
theorem jf:Fun (KK P) "stretch_shown" "stretch_shown" (top 47) 249 j9:=zN (by kernel_rfl) (by kernel_rfl) (by kernel_rfl)
theorem kj:Binds (KK P) j9 ["stretch"] []:=(jf P).binds fun _ _ _ _ _ _ us hl=>match us,hl with|[_],_=>rfl
abbrev vJ:=fdO "summed_shown" "summed_shown" (top 48) "toldsums.whole" 483 255
theorem jG:Fun (KK P) "summed_shown" "summed_shown" (top 48) 256 vJ:=zN (by kernel_rfl) (by kernel_rfl) (by kernel_rfl)
theorem g7:Binds (KK P) vJ ["pair"] []:=(jG P).binds fun _ _ _ _ _ _ us hl=>match us,hl with|[_],_=>rfl
abbrev wY:=fdO "four_rows" "four_rows" (top 49) "toldsums.whole" 483 260
theorem xh:Fun (KK P) "four_rows" "four_rows" (top 49) 261 wY:=zN (by kernel_rfl) (by kernel_rfl) (by kernel_rfl)
theorem zay:Binds (KK P) wY ["stretches"] []:=(xh P).binds fun _ _ _ _ _ _ us hl=>match us,hl with|[_],_=>rfl
abbrev jD:=fdO "answer_show" "answer_show" (top 50) "toldsums.whole" 483 267
theorem xV:Fun (KK P) "answer_show" "answer_show" (top 50) 268 jD:=zN (by kernel_rfl) (by kernel_rfl) (by kernel_rfl)
theorem fL:Binds (KK P) jD ["row","numbers"] []:=(xV P).binds fun _ _ _ _ _ _ us hl=>match us,hl with|[_,_],_=>rfl
abbrev ja:=fdO "answer_count" "answer_count" (top 51) "toldsums.whole" 483 274
theorem xi:Fun (KK P) "answer_count" "answer_count" (top 51) 275 ja:=zN (by kernel_rfl) (by kernel_rfl) (by kernel_rfl)
theorem fe:Binds (KK P) ja ["row","numbers"] []:=(xi P).binds fun _ _ _ _ _ _ us hl=>match us,hl with|[_,_],_=>rfl
abbrev qJ:=fdO "answer_within" "answer_within" (top 52) "toldsums.whole" 483 281
theorem ky:Fun (KK P) "answer_within" "answer_within" (top 52) 282 qJ:=zN (by kernel_rfl) (by kernel_rfl) (by kernel_rfl)
theorem kn:Binds (KK P) qJ ["row","numbers"] []:=(ky P).binds fun _ _ _ _ _ _ us hl=>match us,hl with|[_,_],_=>rfl
abbrev jE:=fdO "answer_rest" "answer_rest" (top 53) "toldsums.whole" 483 288
theorem xW:Fun (KK P) "answer_rest" "answer_rest" (top 53) 289 jE:=zN (by kernel_rfl) (by kernel_rfl) (by kernel_rfl)
theorem fM:Binds (KK P) jE ["row","numbers"] []:=(xW P).binds fun _ _ _ _ _ _ us hl=>match us,hl with|[_,_],_=>rfl
abbrev qZ:=fdO "answer_order" "answer_order" (top 54) "toldsums.whole" 483 295
theorem jJ:Fun (KK P) "answer_order" "answer_order" (top 54) 296 qZ:=zN (by kernel_rfl) (by kernel_rfl) (by kernel_rfl)
theorem fc:Binds (KK P) qZ ["row","numbers"] []:=(jJ P).binds fun _ _ _ _ _ _ us hl=>match us,hl with|[_,_],_=>rfl
abbrev jF:=fdO "answer_near" "answer_near" (top 55) "toldsums.whole" 483 302
theorem xX:Fun (KK P) "answer_near" "answer_near" (top 55) 303 jF:=zN (by kernel_rfl) (by kernel_rfl) (by kernel_rfl)
theorem fN:Binds (KK P) jF ["row","numbers"] []:=(xX P).binds fun _ _ _ _ _ _ us hl=>match us,hl with|[_,_],_=>rfl
abbrev jc:=fdO "answer_apart" "answer_apart" (top 56) "toldsums.whole" 483 307
theorem fq:Fun (KK P) "answer_apart" "answer_apart" (top 56) 308 jc:=zN (by kernel_rfl) (by kernel_rfl) (by kernel_rfl)
theorem fh:Binds (KK P) jc ["row","numbers"] []:=(fq P).binds fun _ _ _ _ _ _ us hl=>match us,hl with|[_,_],_=>rfl
abbrev qK:=fdO "answer_points" "answer_points" (top 57) "toldsums.whole" 483 314
theorem kz:Fun (KK P) "answer_points" "answer_points" (top 57) 315 qK:=zN (by kernel_rfl) (by kernel_rfl) (by kernel_rfl)
theorem ko:Binds (KK P) qK ["row","numbers"] []:=(kz P).binds fun _ _ _ _ _ _ us hl=>match us,hl with|[_,_],_=>rfl
abbrev qL:=fdO "answer_parted" "answer_parted" (top 58) "toldsums.whole" 483 319
theorem kB:Fun (KK P) "answer_parted" "answer_parted" (top 58) 320 qL:=zN (by kernel_rfl) (by kernel_rfl) (by kernel_rfl)
theorem kq:Binds (KK P) qL ["row","numbers"] []:=(kB P).binds fun _ _ _ _ _ _ us hl=>match us,hl with|[_,_],_=>rfl
abbrev vd:=fdO "__init__" "Desk.__init__" (inClass (top 61) 0) "toldsums.whole" 483 335
theorem jh:Fun (KK P) "__init__" "Desk.__init__" (inClass (top 61) 0) 336 vd:=zN (by kernel_rfl) (by kernel_rfl) (by kernel_rfl)
theorem ku:Binds (KK P) vd ["self"] []:=(jh P).binds fun _ _ _ _ _ _ us hl=>match us,hl with|[_],_=>rfl
def kx:=zcJ (C:=372) (jh P) (ku P) (by kernel_rfl) (by kernel_rfl)
abbrev yS:=fdO "ask" "Desk.ask" (inClass (top 61) 1) "toldsums.whole" 483 342
theorem wC:Fun (KK P) "ask" "Desk.ask" (inClass (top 61) 1) 343 yS:=zN (by kernel_rfl) (by kernel_rfl) (by kernel_rfl)
theorem zbi:Binds (KK P) yS ["self","line"] []:=(wC P).binds fun _ _ _ _ _ _ us hl=>match us,hl with|[_,_],_=>rfl
def wx:=zcJ (C:=372) (wC P) (zbi P) (by kernel_rfl) (by kernel_rfl)
abbrev vN:=fdO "put_row" "Desk.put_row" (inClass (top 61) 2) "toldsums.whole" 483 349
theorem jK:Fun (KK P) "put_row" "Desk.put_row" (inClass (top 61) 2) 350 vN:=zN (by kernel_rfl) (by kernel_rfl) (by kernel_rfl)
theorem fi:Binds (KK P) vN ["self","name","words"] []:=(jK P).binds fun _ _ _ _ _ _ us hl=>match us,hl with|[_,_,_],_=>rfl
def fm:=zcJ (C:=372) (jK P) (fi P) (by kernel_rfl) (by kernel_rfl)
abbrev jk:=fdO "lead_in_row" "Desk.lead_in_row" (inClass (top 61) 3) "toldsums.whole" 483 356
theorem qt:Fun (KK P) "lead_in_row" "Desk.lead_in_row" (inClass (top 61) 3) 357 jk:=zN (by kernel_rfl) (by kernel_rfl) (by kernel_rfl)
theorem wq:Binds (KK P) jk ["self","name","words"] []:=(qt P).binds fun _ _ _ _ _ _ us hl=>match us,hl with|[_,_,_],_=>rfl
def wu:=zcJ (C:=372) (qt P) (wq P) (by kernel_rfl) (by kernel_rfl)
abbrev v8:=fdO "answer" "Desk.answer" (inClass (top 61) 4) "toldsums.whole" 483 361
theorem j4:Fun (KK P) "answer" "Desk.answer" (inClass (top 61) 4) 362 v8:=zN (by kernel_rfl) (by kernel_rfl) (by kernel_rfl)
theorem fP:Binds (KK P) v8 ["self","word","name","words"] []:=(j4 P).binds fun _ _ _ _ _ _ us hl=>match us,hl with|[_,_,_,_],_=>rfl
def fR:=zcJ (C:=372) (j4 P) (fP P) (by kernel_rfl) (by kernel_rfl)
abbrev jV:=fdO "row_named" "Desk.row_named" (inClass (top 61) 5) "toldsums.whole" 483 368
theorem qN:Fun (KK P) "row_named" "Desk.row_named" (inClass (top 61) 5) 369 jV:=zN (by kernel_rfl) (by kernel_rfl) (by kernel_rfl)
theorem yB:Binds (KK P) jV ["self","name"] []:=(qN P).binds fun _ _ _ _ _ _ us hl=>match us,hl with|[_,_],_=>rfl
def vf:=zcJ (C:=372) (qN P) (yB P) (by kernel_rfl) (by kernel_rfl)
abbrev ya:=fdO "_law_draw" "_law_draw" (top 63) "law_toldsums_k37_desk_refused" 730 382
theorem xm:Fun (KK P) "_law_draw" "_law_draw" (top 63) 383 ya:=zN (by kernel_rfl) (by kernel_rfl) (by kernel_rfl)
theorem zaC:Binds (KK P) ya ["script","k"] []:=(xm P).binds fun _ _ _ _ _ _ us hl=>match us,hl with|[_,_],_=>rfl
abbrev w5:=fdO "_law_name" "_law_name" (top 64) "law_toldsums_k37_desk_refused" 730 389
theorem xk:Fun (KK P) "_law_name" "_law_name" (top 64) 390 w5:=zN (by kernel_rfl) (by kernel_rfl) (by kernel_rfl)
theorem zaA:Binds (KK P) w5 ["script","i"] []:=(xk P).binds fun _ _ _ _ _ _ us hl=>match us,hl with|[_,_],_=>rfl
abbrev w6:=fdO "_law_kind" "_law_kind" (top 65) "law_toldsums_k37_desk_refused" 730 394
theorem xl:Fun (KK P) "_law_kind" "_law_kind" (top 65) 395 w6:=zN (by kernel_rfl) (by kernel_rfl) (by kernel_rfl)
theorem zaB:Binds (KK P) w6 ["desk","line"] []:=(xl P).binds fun _ _ _ _ _ _ us hl=>match us,hl with|[_,_],_=>rfl
abbrev vb:=fdO "_law_by_names" "_law_by_names" (top 66) "law_toldsums_k37_desk_refused" 730 401
theorem jg:Fun (KK P) "_law_by_names" "_law_by_names" (top 66) 402 vb:=zN (by kernel_rfl) (by kernel_rfl) (by kernel_rfl)
theorem kr:Binds (KK P) vb ["line","names"] []:=(jg P).binds fun _ _ _ _ _ _ us hl=>match us,hl with|[_,_],_=>rfl
abbrev xS:=fdO "_law_lines" "_law_lines" (top 67) "law_toldsums_k37_desk_refused" 730 408
theorem vC:Fun (KK P) "_law_lines" "_law_lines" (top 67) 409 xS:=zN (by kernel_rfl) (by kernel_rfl) (by kernel_rfl)
theorem d5:Binds (KK P) xS [] []:=(vC P).binds fun _ _ _ _ _ _ us hl=>match us,hl with|[],_=>rfl
abbrev xT:=fdO "_law_doors" "_law_doors" (top 68) "law_toldsums_k37_desk_refused" 730 413
theorem vD:Fun (KK P) "_law_doors" "_law_doors" (top 68) 414 xT:=zN (by kernel_rfl) (by kernel_rfl) (by kernel_rfl)
theorem d6:Binds (KK P) xT [] []:=(vD P).binds fun _ _ _ _ _ _ us hl=>match us,hl with|[],_=>rfl
abbrev xR:=fdO "_law_parts" "_law_parts" (top 69) "law_toldsums_k37_desk_refused" 730 418
theorem vB:Fun (KK P) "_law_parts" "_law_parts" (top 69) 419 xR:=zN (by kernel_rfl) (by kernel_rfl) (by kernel_rfl)
theorem d4:Binds (KK P) xR [] []:=(vB P).binds fun _ _ _ _ _ _ us hl=>match us,hl with|[],_=>rfl
abbrev wZ:=fdO "_law_told" "_law_told" (top 70) "law_toldsums_k37_desk_refused" 730 425
theorem xj:Fun (KK P) "_law_told" "_law_told" (top 70) 426 wZ:=zN (by kernel_rfl) (by kernel_rfl) (by kernel_rfl)
theorem zaz:Binds (KK P) wZ ["desk","name"] []:=(xj P).binds fun _ _ _ _ _ _ us hl=>match us,hl with|[_,_],_=>rfl
abbrev za8:=fdO "law" "law" (top 71) "law_toldsums_k37_desk_refused" 730 430
theorem zhU:Fun (KK P) "law" "law" (top 71) 431 za8:=zN (by kernel_rfl) (by kernel_rfl) (by kernel_rfl)
end
section
variable {P:Params}{h:Heap}{mg:Str→Option Value}(X:(KK P).In h)(G:h.Ns mainGlobals mg)
def D_is_number:=qF X G (xg P) (zax P) (by kernel_rfl)
def D_row_shown:=qF X G (xf P) (zav P) (by kernel_rfl)
def D_sums_ahead:=qF X G (yf P) (dY P) (by kernel_rfl)
def D_stretches_of:=qF X G (xb P) (g8 P) (by kernel_rfl)
def D_summed_stretches:=qF X G (qr P) (wo P) (by kernel_rfl)
def D_length_of:=qF X G (yV P) (zaw P) (by kernel_rfl)
def D_first_of:=qF X G (wz P) (zbf P) (by kernel_rfl)
def D_longest_of:=qF X G (vz P) (dZ P) (by kernel_rfl)
def D_shortest_of:=qF X G (j0 P) (fJ P) (by kernel_rfl)
def D_all_with:=qF X G (wA P) (zbg P) (by kernel_rfl)
def D_row_led:=qF X G (yD P) (zc7 P) (by kernel_rfl)
def D_in_order:=qF X G (vA P) (zbe P) (by kernel_rfl)
def D_look_at_rest:=qF X G (jI P) (fb P) (by kernel_rfl)
def D_all_rest:=qF X G (wB P) (zbh P) (by kernel_rfl)
def D_is_name:=qF X G (yE P) (zc9 P) (by kernel_rfl)
def D_number_read:=qF X G (j3 P) (fK P) (by kernel_rfl)
def D_row_of_words:=qF X G (jH P) (g9 P) (by kernel_rfl)
def D_stretch_shown:=qF X G (jf P) (kj P) (by kernel_rfl)
def D_summed_shown:=qF X G (jG P) (g7 P) (by kernel_rfl)
def D_four_rows:=qF X G (xh P) (zay P) (by kernel_rfl)
def D__law_draw:=qF X G (xm P) (zaC P) (by kernel_rfl)
def D__law_name:=qF X G (xk P) (zaA P) (by kernel_rfl)
def D__law_kind:=qF X G (xl P) (zaB P) (by kernel_rfl)
def D__law_by_names:=qF X G (jg P) (kr P) (by kernel_rfl)
def D__law_lines:=qF X G (vC P) (d5 P) (by kernel_rfl)
def D__law_doors:=qF X G (vD P) (d6 P) (by kernel_rfl)
def D__law_parts:=qF X G (vB P) (d4 P) (by kernel_rfl)
def D__law_told:=qF X G (xj P) (zaz P) (by kernel_rfl)
end
theorem bO (P:Params):FunC (KK P) "nearest" "nearest" (top 32) 206 vx 205 201:=⟨⟨.type "function",none,.none,.none,.str "toldsums.orders" 434,none,.none,#[],rfl,by kernel_rfl,by kernel_rfl⟩,by kernel_rfl,by kernel_rfl⟩
theorem zbq {P:Params}{h:Heap}{mg:Str→Option Value}(X:(KK P).In h)(G:h.Ns mainGlobals mg):zeI (KK P) mg "nearest" (top 32) ["row","total"] 206 vx 205 201:=⟨bO P,PySem.W.mg_of X G (by kernel_rfl),zc8 P⟩
theorem TC_ {P:Params}{h:Heap}{mg:Str→Option Value}(X:(KK P).In h)(G:h.Ns mainGlobals mg):fQ (KK P) mg 372:=⟨⟨by kernel_rfl,by kernel_rfl,by kernel_rfl,by kernel_rfl⟩,by unfold NoAttr;kernel_rfl,PySem.W.mg_of X G (by kernel_rfl)⟩
theorem MK_ (P:Params):Mk (KK P) 372 336:=⟨by kernel_rfl,by kernel_rfl,by kernel_rfl,by kernel_rfl⟩
theorem X_SumError {P:Params}{h:Heap}{mg:Str→Option Value}(X:(KK P).In h)(G:h.Ns mainGlobals mg):XSp (KK P) mg "SumError" 24:=⟨PySem.W.mg_of X G (by kernel_rfl),⟨by kernel_rfl,by kernel_rfl,by kernel_rfl⟩⟩
theorem zdb (P:Params):wt (KK P) 37:=⟨by kernel_rfl,by kernel_rfl,by kernel_rfl,by kernel_rfl,by kernel_rfl,by kernel_rfl⟩
theorem X_NoText {P:Params}{h:Heap}{mg:Str→Option Value}(X:(KK P).In h)(G:h.Ns mainGlobals mg):XRz (KK P) mg "NoText" 37:=⟨PySem.W.mg_of X G (by kernel_rfl),by kernel_rfl,zdb P⟩
theorem ye (P:Params):wt (KK P) 49:=⟨by kernel_rfl,by kernel_rfl,by kernel_rfl,by kernel_rfl,by kernel_rfl,by kernel_rfl⟩
theorem X_NoStretch {P:Params}{h:Heap}{mg:Str→Option Value}(X:(KK P).In h)(G:h.Ns mainGlobals mg):XRz (KK P) mg "NoStretch" 49:=⟨PySem.W.mg_of X G (by kernel_rfl),by kernel_rfl,ye P⟩
theorem bM (P:Params):wt (KK P) 61:=⟨by kernel_rfl,by kernel_rfl,by kernel_rfl,by kernel_rfl,by kernel_rfl,by kernel_rfl⟩
theorem X_NoRest {P:Params}{h:Heap}{mg:Str→Option Value}(X:(KK P).In h)(G:h.Ns mainGlobals mg):XRz (KK P) mg "NoRest" 61:=⟨PySem.W.mg_of X G (by kernel_rfl),by kernel_rfl,bM P⟩
theorem fj (P:Params):wt (KK P) 73:=⟨by kernel_rfl,by kernel_rfl,by kernel_rfl,by kernel_rfl,by kernel_rfl,by kernel_rfl⟩
theorem X_NoPlace {P:Params}{h:Heap}{mg:Str→Option Value}(X:(KK P).In h)(G:h.Ns mainGlobals mg):XRz (KK P) mg "NoPlace" 73:=⟨PySem.W.mg_of X G (by kernel_rfl),by kernel_rfl,fj P⟩
theorem zaD (P:Params):wt (KK P) 85:=⟨by kernel_rfl,by kernel_rfl,by kernel_rfl,by kernel_rfl,by kernel_rfl,by kernel_rfl⟩
theorem X_NoAsk {P:Params}{h:Heap}{mg:Str→Option Value}(X:(KK P).In h)(G:h.Ns mainGlobals mg):XRz (KK P) mg "NoAsk" 85:=⟨PySem.W.mg_of X G (by kernel_rfl),by kernel_rfl,zaD P⟩
theorem zcV {P:Params}{h:Heap}{mg:Str→Option Value}(X:(KK P).In h)(G:h.Ns mainGlobals mg):mg "FIGURES"=some (.str "0123456789" 289):=PySem.W.mg_of X G (by kernel_rfl)
theorem zcU {P:Params}{h:Heap}{mg:Str→Option Value}(X:(KK P).In h)(G:h.Ns mainGlobals mg):mg "LETTERS"=some (.str "abcdefghijklmnopqrstuvwxyz" 485):=PySem.W.mg_of X G (by kernel_rfl)
theorem gK {P:Params}{h:Heap}{mg:Str→Option Value}(X:(KK P).In h)(G:h.Ns mainGlobals mg):mg "NAME_LETTERS"=some (.int 8 487):=PySem.W.mg_of X G (by kernel_rfl)
theorem fF {P:Params}{h:Heap}{mg:Str→Option Value}(X:(KK P).In h)(G:h.Ns mainGlobals mg):mg "ROW_NUMBERS"=some (.int 60 489):=PySem.W.mg_of X G (by kernel_rfl)
theorem xO {P:Params}{h:Heap}{mg:Str→Option Value}(X:(KK P).In h)(G:h.Ns mainGlobals mg):mg "ROW_FIGURES"=some (.int 12 491):=PySem.W.mg_of X G (by kernel_rfl)
theorem vI {P:Params}{h:Heap}{mg:Str→Option Value}(X:(KK P).In h)(G:h.Ns mainGlobals mg):mg "ASKED_FIGURES"=some (.int 14 493):=PySem.W.mg_of X G (by kernel_rfl)
theorem zbo {P:Program}{w:World}:KD P w (KK w.params) 321 (([("show",608,.ref 268),("count",609,.ref 275),("within",610,.ref 282),("rest",611,.ref 289),("order",612,.ref 296),("near",613,.ref 303),("apart",614,.ref 308),("points",615,.ref 315),("parted",616,.ref 320)]:List (Str×Tok×Value)).map (fun p=>(Sum.inr p.1:Key)) |>.zip [.ref 268,.ref 275,.ref 282,.ref 289,.ref 296,.ref 303,.ref 308,.ref 315,.ref 320]):=
 zfY (l:=[("show",608,.ref 268),("count",609,.ref 275),("within",610,.ref 282),("rest",611,.ref 289),("order",612,.ref 296),("near",613,.ref 303),("apart",614,.ref 308),("points",615,.ref 315),("parted",616,.ref 320)]) (n:=9) (by decide) (by kernel_rfl) (by decide +kernel) (.cons rfl (.cons rfl (.cons rfl (.cons rfl (.cons rfl (.cons rfl (.cons rfl (.cons rfl (.cons rfl (.nil))))))))))
theorem zcW {P:Params}{h:Heap}{mg:Str→Option Value}(X:(KK P).In h)(G:h.Ns mainGlobals mg):mg "ANSWERS"=some (.ref 321):=PySem.W.mg_of X G (by kernel_rfl)
theorem yC {P:Program}{w:World}:KD P w (KK w.params) 322 (([("show",627,.int 0 628),("count",629,.int 1 630),("within",631,.int 2 632),("rest",633,.int 2 634),("order",635,.int 1 636),("near",637,.int 1 638),("apart",639,.int 1 640),("points",641,.int 1 642),("parted",643,.int 1 644)]:List (Str×Tok×Value)).map (fun p=>(Sum.inr p.1:Key)) |>.zip [.int 0,.int 1,.int 2,.int 2,.int 1,.int 1,.int 1,.int 1,.int 1]):=
 zfY (l:=[("show",627,.int 0 628),("count",629,.int 1 630),("within",631,.int 2 632),("rest",633,.int 2 634),("order",635,.int 1 636),("near",637,.int 1 638),("apart",639,.int 1 640),("points",641,.int 1 642),("parted",643,.int 1 644)]) (n:=9) (by decide) (by kernel_rfl) (by decide +kernel) (.cons ⟨_,rfl⟩ (.cons ⟨_,rfl⟩ (.cons ⟨_,rfl⟩ (.cons ⟨_,rfl⟩ (.cons ⟨_,rfl⟩ (.cons ⟨_,rfl⟩ (.cons ⟨_,rfl⟩ (.cons ⟨_,rfl⟩ (.cons ⟨_,rfl⟩ (.nil))))))))))
theorem kg {P:Params}{h:Heap}{mg:Str→Option Value}(X:(KK P).In h)(G:h.Ns mainGlobals mg):mg "NUMBERS_ASKED"=some (.ref 322):=PySem.W.mg_of X G (by kernel_rfl)
theorem FnOkB.toOk {P:Program}{w:World}{K:PySem.W.Frag}{mg:Str→Option Value}{base:Heap}{k:Nat}{f:Addr}{fd:FuncData}{ps:List Str}{sp:Spb}(F:FnOkB P w K mg base k f fd ps sp) :
 FnOk P w K mg base CX0 k f fd ps (fun vs H Q _=>sp 0 vs H (fun _=>Q)):=
 ⟨fun vs H Q E h=>F.len 0 vs H _ h,fun A outer s H args us vs Q E hr e0 hb r h=>codeAny_mono (F.run A outer s H args us vs 0 _ hr e0 hb r (Nat.zero_le _) h) fun r s' hq=>by
  cases r with
  |error e=>exact hq.elim
  |ok fl=>
   cases fl with
   |ret u=>obtain⟨n',_,q⟩:=hq;exact q
   |next=>exact hq.elim
   |brk=>exact hq.elim
   |cont=>exact hq.elim⟩
def clA:Nat→Addr
 |0=>85
 |1=>73
 |2=>49
 |3=>61
 |_=>37
def gA:Nat→Addr
 |0=>268
 |1=>275
 |2=>282
 |3=>289
 |4=>296
 |5=>303
 |6=>308
 |7=>315
 |_=>320
def gD:Nat→FuncData
 |0=>jD
 |1=>ja
 |2=>qJ
 |3=>jE
 |4=>qZ
 |5=>jF
 |6=>jc
 |7=>qK
 |_=>qL
theorem XR_ (P:Params):zhP (KK P) 24 clA:=
 ⟨fun k h=>match k,h with|0,_=>by kernel_rfl|1,_=>by kernel_rfl|2,_=>by kernel_rfl|3,_=>by kernel_rfl,
  fun k h=>match k,h with|0,_=>by kernel_rfl|1,_=>by kernel_rfl|2,_=>by kernel_rfl|3,_=>by kernel_rfl,
  fun k j h h'=>match k,j,h,h' with
   |0,0,_,_=>by kernel_rfl|0,1,_,_=>by kernel_rfl|0,2,_,_=>by kernel_rfl|0,3,_,_=>by kernel_rfl|0,4,_,_=>by kernel_rfl
   |1,0,_,_=>by kernel_rfl|1,1,_,_=>by kernel_rfl|1,2,_,_=>by kernel_rfl|1,3,_,_=>by kernel_rfl|1,4,_,_=>by kernel_rfl
   |2,0,_,_=>by kernel_rfl|2,1,_,_=>by kernel_rfl|2,2,_,_=>by kernel_rfl|2,3,_,_=>by kernel_rfl|2,4,_,_=>by kernel_rfl
   |3,0,_,_=>by kernel_rfl|3,1,_,_=>by kernel_rfl|3,2,_,_=>by kernel_rfl|3,3,_,_=>by kernel_rfl|3,4,_,_=>by kernel_rfl,
  fun k h=>match k,h with|0,_=>zaD P|1,_=>fj P|2,_=>ye P|3,_=>bM P⟩
theorem kp_ (P:Params):∀i,i<9→PySem.W.keepIn (KK P) (.ref (gA i))=true:=fun i h=>match i,h with
 |0,_=>by kernel_rfl|1,_=>by kernel_rfl|2,_=>by kernel_rfl|3,_=>by kernel_rfl|4,_=>by kernel_rfl|5,_=>by kernel_rfl|6,_=>by kernel_rfl|7,_=>by kernel_rfl|8,_=>by kernel_rfl
theorem bd_ (P:Params):∀i,i<9→Binds (KK P) (gD i) ["row","numbers"] []:=fun i h=>match i,h with
 |0,_=>fL P|1,_=>fe P|2,_=>kn P|3,_=>fM P|4,_=>fc P|5,_=>fN P|6,_=>fh P|7,_=>ko P|8,_=>kq P
section
variable {Pr:Program}{w:World}{h base:Heap}{mg:Str→Option Value}
theorem zgs (X:(KK w.params).In h)(G:h.Ns mainGlobals mg)(BM:zbs mg base):FnOk Pr w (KK w.params) mg base CX0 9 431 za8 ["script"] (zfN (KK w.params) [201]):=by
 have T:Txt mg:=⟨PySem.W.mg_none_of X G (by kernel_rfl),PySem.W.mg_none_of X G (by kernel_rfl),PySem.W.mg_none_of X G (by kernel_rfl),PySem.W.mg_none_of X G (by kernel_rfl),PySem.W.mg_none_of X G (by kernel_rfl),PySem.W.mg_none_of X G (by kernel_rfl),PySem.W.mg_none_of X G (by kernel_rfl),PySem.W.mg_none_of X G (by kernel_rfl),PySem.W.mg_none_of X G (by kernel_rfl),PySem.W.mg_none_of X G (by kernel_rfl),PySem.W.mg_none_of X G (by kernel_rfl),PySem.W.mg_none_of X G (by kernel_rfl),PySem.W.mg_none_of X G (by kernel_rfl),PySem.W.mg_none_of X G (by kernel_rfl),PySem.W.mg_none_of X G (by kernel_rfl),PySem.W.mg_none_of X G (by kernel_rfl),PySem.W.mg_none_of X G (by kernel_rfl),PySem.W.mg_none_of X G (by kernel_rfl),PySem.W.mg_none_of X G (by kernel_rfl)⟩
 have TC:=TC_ X G
 have XA:=X_NoAsk X G
 have o_draw:=zfe (P:=Pr) (w:=w) (base:=base) (xm w.params) T
 have o_sum:=xD (P:=Pr) (w:=w) (base:=base) (qr w.params) T (D_sums_ahead X G) (D_stretches_of X G)
 have o_all:=zad (wA w.params) T (D_summed_stretches X G) o_sum
 have o_first:=zac (P:=Pr) (w:=w) (base:=base) (wz w.params) T
 have o_long:=fC (P:=Pr) (w:=w) (base:=base) (vz w.params) T (D_length_of X G)
 have o_short:=gy (P:=Pr) (w:=w) (base:=base) (j0 w.params) T (D_length_of X G)
 have o_isn:=dD (P:=Pr) (w:=w) (base:=base) (xg w.params) T (zcV X G)
 have o_shown:=dz (P:=Pr) (w:=w) (base:=base) (xf w.params) T
 have o_name:=zaY (P:=Pr) (w:=w) (base:=base) (yE w.params) T (zcU X G) (gK X G)
 have o_nr:=yY (j3 w.params) T (D_is_number X G) o_isn XA
 have o_rw:=yg (jH w.params) T (D_number_read X G) o_nr XA (fF X G) (xO X G)
 have o_ss:=yp (P:=Pr) (w:=w) (base:=base) (jf w.params) T
 have o_sms:=y9 (jG w.params) T (D_stretch_shown X G) o_ss
 have o_four:=dE (xh w.params) T (D_stretch_shown X G) o_ss (D_first_of X G) o_first (D_longest_of X G) o_long (D_shortest_of X G) o_short
 have o_ord:=zab (vA w.params) T (D_summed_stretches X G) o_sum
 have o_ordb:=dW (vA w.params) T (D_summed_stretches X G) o_sum (X_NoStretch X G)
 have o_look:=yz (P:=Pr) (w:=w) (base:=base) (jI w.params) T (X_NoRest X G)
 have o_rest:=dX (wB w.params) T (D_look_at_rest X G) o_look
 have o_led:=zau (P:=Pr) (w:=w) (base:=base) (yD w.params) T (X_NoPlace X G)
 have o_near:=zaX (bO w.params) T BM (D_summed_stretches X G) o_sum
 have AN:Answers Pr w (KK w.params) mg base 201 clA gA gD:={
  kp:=kp_ _
  bd:=bd_ _
  sh:=(gz (xV w.params) T (D_row_shown X G) o_shown).mono (by decide)
  ct:=kc (xi w.params) T (D_all_with X G) o_all (D_four_rows X G) o_four
  rs:=ki (xW w.params) T (D_all_rest X G) o_rest (D_four_rows X G) o_four
  og:=(kb (jJ w.params) T (D_in_order X G) o_ord (D_summed_shown X G) o_sms).mono (by decide)
  ob:=(yA (jJ w.params) T (D_in_order X G) o_ordb (D_summed_shown X G) o_sms).mono (by decide)
  nr:=gB (xX w.params) T (zbq X G) o_near (D_summed_shown X G) o_sms }
 have o_init:=zfd (P:=Pr) (w:=w) (base:=base) (jh w.params) TC
 have o_named:=fv (P:=Pr) (w:=w) (base:=base) (cl:=clA) (qN w.params) TC XA
 have o_put:=pE (T0:=201) (cl:=clA) (jK w.params) TC XA (D_is_name X G) o_name (D_row_of_words X G) o_rw
 have o_lead:=yZ (T0:=201) (cl:=clA) (qt w.params) T TC XA (vf _) o_named (D_number_read X G) o_nr (D_row_led X G) o_led (xO X G) (vI X G)
 have o_ans:=zaG (cl:=clA) (g:=gA) (gd:=gD) (j4 w.params) T TC XA (vf _) o_named (D_number_read X G) o_nr (vI X G) (zcW X G) (kg X G) (zbo (P:=Pr) (w:=w)) (yC (P:=Pr) (w:=w)) AN
 have o_ask:=zeK (cl:=clA) (wC w.params) T TC XA (fm _) o_put (wu _) o_lead (fR _) o_ans
 have o_kind:=zaa (xl w.params) T TC (X_SumError X G) ⟨XA.mg⟩ ⟨(X_NoPlace X G).mg⟩ ⟨(X_NoStretch X G).mg⟩ ⟨(X_NoRest X G).mg⟩ ⟨(X_NoText X G).mg⟩ (XR_ _) (wx _) o_ask
 have o_told:=p9 (xj w.params) T TC (wx _) o_ask
 have o_lines:=dB (P:=Pr) (w:=w) (base:=base) (vC w.params) T
 have o_doors:=dC (P:=Pr) (w:=w) (base:=base) (vD w.params) T
 have o_parts:=dA (P:=Pr) (w:=w) (base:=base) (vB w.params) T
 have o_nm:=dF (xk w.params) T (D__law_draw X G) o_draw
 have o_by:=yq (P:=Pr) (w:=w) (base:=base) (jg w.params) T
 refine FnOk.imp (FnOkB.toOk (zff (zhU w.params) T TC (MK_ _) (kx _) o_init (wx _) o_ask (D__law_draw X G) o_draw (D__law_name X G) o_nm (D__law_kind X G) o_kind (D__law_by_names X G) o_by (D__law_lines X G) o_lines (D__law_doors X G) o_doors (D__law_parts X G) o_parts (D__law_told X G) o_told)) ?_
 rintro vs H Q E ⟨a,ns,rfl,hS,hl,hT,k⟩
 exact⟨a,ns,rfl,hS,hl,.inl (hT _ (List.mem_singleton.mpr rfl)),fun _ H'=>k H'⟩
end
theorem walk {q:Program}{loose:List Str}{XP:(Str→Option Value)→Heap→Prop}{d:DefRec}(hn:d.name="law":=by rfl)(hdf:d.params.defaults=[]:=by rfl) :
 PySem.W.WalkO q loose XP (PySem.W.Hook.says HK) PySem.Challenge.rw_toldsums_k37_desk_refused.row.toRowW d [] (fun f vs=>PySem.call f vs):=by
 refine L2.walk_ofT (l:=PySem.Challenge.rw_toldsums_k37_desk_refused) (n:=63) (k:=9) (x:="script") (K:=KK) (ts:=[201]) (sp:=fun w tabs=>zfN (KK w.params) tabs) rfl (by decide) hdf ⟨rfl,by decide,by decide⟩ (fun w h Y=>⟨PySem.W.km_in_of Y,PySem.W.km_tabs_of Y⟩) ?_
 intro w mg fa h KX G hmg
 rw[hn] at hmg
 have e:=hmg.symm.trans (PySem.W.mg_of (n:="law") (v:=.ref 431) KX G (by kernel_rfl))
 cases e
 refine⟨za8,[201],fun P hP=>?_,fun s u=>.of_eq rfl,fun base _ _ BM=>zgs KX G BM,fun H a ns hl hS hT=>⟨a,ns,rfl,hS,hl,hT,fun _=>rfl⟩⟩
 rw[List.mem_singleton.mp hP]
 exact⟨List.mem_singleton.mpr rfl,by kernel_rfl,205,by kernel_rfl⟩
def FO (c:String)(vs:List Value):Obj:={ cls:=.type c,data:=.fields vs.toArray }
def NO (vs:List Value):Obj:={ cls:=.none,data:=.fields vs.toArray }
def TO (vs:List Value):Obj:={ cls:=.type "tuple",data:=.seq vs.toArray }
def nO (x q:Str)(st:Stmt):Obj:={ cls:=.none,data:=.func { name:=x,qualname:=q,params:=xB st,body:=.stmts (qE st),scope:=zd st,globals:=0,closure:=[],defaults:=.none,kwdefaults:=.none } }
noncomputable def mO1:Params→List Obj:=fun P=>[
 PySem.W.boot_o_0 P,
 PySem.W.boot_o_1 P,
 PySem.W.boot_o_2 P,
 dO 29 [e P "__name__" 165 (.str "toldsums.apart" 362),e P "__doc__" 166 (.none),e P "__package__" 167 (.none),e P "__loader__" 168 (.builtin "__main__.__loader__#opaque"),e P "__spec__" 169 (.none),e P "__annotations__" 170 (.ref 6),e P "__builtins__" 171 (.ref 4),e P "__file__" 173 (.str "/claim/cut.py" 172),e P "__cached__" 174 (.none),e P "SumError" 206 (.ref 24),e P "NoText" 222 (.ref 37),e P "NoStretch" 238 (.ref 49),e P "NoRest" 254 (.ref 61),e P "NoPlace" 270 (.ref 73),e P "NoAsk" 286 (.ref 85),e P "FIGURES" 290 (.str "0123456789" 289),e P "is_number" 296 (.ref 92),e P "row_shown" 302 (.ref 97),e P "sums_ahead" 311 (.ref 104),e P "stretches_of" 317 (.ref 109),e P "summed_stretches" 323 (.ref 114),e P "length_of" 332 (.ref 121),e P "first_of" 339 (.ref 128),e P "longest_of" 346 (.ref 135),e P "shortest_of" 353 (.ref 142),e P "all_with" 361 (.ref 147),e P "most_apart" 376 (.ref 154),e P "best_from" 382 (.ref 159),e P "count_partings" 390 (.ref 166)],
 PySem.W.boot_o_4 P,
 PySem.W.boot_o_5 P,
 PySem.W.boot_o_6 P,
 PySem.W.boot_o_7 P,
 PySem.W.boot_o_8 P,
 PySem.W.boot_o_9 P,
 PySem.W.boot_o_10 P,
 TO [],
 NO [.int 2 0,.int 0 0,.ref 20,.int 4 0,.int 0 0,.ref 33,.int 6 0,.int 0 0,.ref 45,.int 8 0,.int 0 0,.ref 57,.int 10 0,.int 0 0,.ref 69,.int 12 0,.int 0 0,.ref 81,.int 16 0,.int 0 0,.ref 91,.int 23 0,.int 0 0,.ref 96,.int 25 0,.int 0 0,.ref 103,.int 30 0,.int 0 0,.ref 108,.int 33 0,.int 0 0,.ref 113,.int 36 0,.int 0 0,.ref 120,.int 39 0,.int 0 0,.ref 127,.int 41 0,.int 0 0,.ref 134,.int 43 0,.int 0 0,.ref 141,.int 46 0,.int 0 0,.ref 146,.int 49 0,.int 0 0,.ref 153,.int 58 0,.int 0 0,.ref 158,.int 67 0,.int 0 0,.ref 165],
 cO "<module>" 182 "<module>" 183 184 [.int 1 0,.int 0 0,.int 0 0,.int 0 0,.int 0 0,.ref 11,.bool Bool.false,.int 181 0,.ref 12,.none,.none,.none,.none,.int 185 0,.int 1 0] 186,
 { cls:=.type "frame",slots:=#[Option.some (.ref 13),Option.some (.ref 3),Option.some (.ref 3),Option.none,Option.some (.str "__main__" 164),Option.none,Option.some (.ref 0)] },
 TO [.type "ValueError"],
 FO "builtin_function_or_method" [.builtin "type.__prepare__",.type "type"],
 dO 4 [e P "__module__" 196 (.str "toldsums.errors" 187),e P "__qualname__" 198 (.str "SumError" 197),e P "__firstlineno__" 200 (.int 2 199),e P "__static_attributes__" 201 (.ref 22)],
 TO [],
 NO [],
 cO "SumError" 191 "SumError" 192 193 [.int 2 0,.int 0 0,.int 0 0,.int 0 0,.int 0 0,.ref 18,.bool Bool.false,.int 181 0,.ref 19,.none,.none,.none,.none,.int 194 0,.int 2 0] 195,
 { cls:=.type "frame",slots:=#[Option.some (.ref 20),Option.some (.ref 3),Option.some (.ref 17),Option.none,Option.some (.str "toldsums.errors" 187),Option.none,Option.some (.ref 0)] },
 TO [],
 dO 3 [e P "__module__" 196 (.str "toldsums.errors" 187),e P "__firstlineno__" 200 (.int 2 199),e P "__static_attributes__" 201 (.ref 22),e P "__weakref__" 203 (.ref 25),e P "__doc__" 204 (.none)],
 { cls:=.type "type",data:=.cls { name:="SumError",bases:=[.type "ValueError"],mro:=[.ref 24,.type "ValueError",.type "Exception",.type "BaseException",.type "object"],ns:=23,qualname:="SumError",subclasses:=[.ref 37,.ref 49,.ref 61,.ref 73,.ref 85] },slots:=#[Option.some (.ref 15),Option.none,Option.some (.str "SumError" 189),Option.some (.str "SumError" 197),Option.some (.builtin "ValueError.__new__"),Option.some (.bool Bool.true)] },
 FO "getset_descriptor" [.str "__weakref__" 202,.ref 24,.builtin "ExceptionGroup.__weakref__",.none],
 FO "super" [.ref 24,.ref 24,.ref 24],
 FO "builtin_function_or_method" [.builtin "object.__init_subclass__",.ref 24],
 TO [.ref 24],
 FO "builtin_function_or_method" [.builtin "type.__prepare__",.type "type"],
 dO 4 [e P "__module__" 214 (.str "toldsums.errors" 187),e P "__qualname__" 216 (.str "NoText" 215),e P "__firstlineno__" 218 (.int 4 217),e P "__static_attributes__" 219 (.ref 35)],
 TO [],
 NO [],
 cO "NoText" 209 "NoText" 210 211 [.int 4 0,.int 0 0,.int 0 0,.int 0 0,.int 0 0,.ref 31,.bool Bool.false,.int 181 0,.ref 32,.none,.none,.none,.none,.int 212 0,.int 4 0] 213,
 { cls:=.type "frame",slots:=#[Option.some (.ref 33),Option.some (.ref 3),Option.some (.ref 30),Option.none,Option.some (.str "toldsums.errors" 187),Option.none,Option.some (.ref 0)] },
 TO [],
 dO 2 [e P "__module__" 214 (.str "toldsums.errors" 187),e P "__firstlineno__" 218 (.int 4 217),e P "__static_attributes__" 219 (.ref 35),e P "__doc__" 220 (.none)],
 { cls:=.type "type",data:=.cls { name:="NoText",bases:=[.ref 24],mro:=[.ref 37,.ref 24,.type "ValueError",.type "Exception",.type "BaseException",.type "object"],ns:=36,qualname:="NoText" },slots:=#[Option.some (.ref 28),Option.none,Option.some (.str "NoText" 207),Option.some (.str "NoText" 215),Option.some (.builtin "ValueError.__new__"),Option.some (.bool Bool.true)] },
 FO "super" [.ref 37,.ref 37,.ref 37],
 FO "builtin_function_or_method" [.builtin "object.__init_subclass__",.ref 37],
 TO [.ref 24],
 FO "builtin_function_or_method" [.builtin "type.__prepare__",.type "type"],
 dO 4 [e P "__module__" 230 (.str "toldsums.errors" 187),e P "__qualname__" 232 (.str "NoStretch" 231),e P "__firstlineno__" 234 (.int 6 233),e P "__static_attributes__" 235 (.ref 47)],
 TO [],
 NO [],
 cO "NoStretch" 225 "NoStretch" 226 227 [.int 6 0,.int 0 0,.int 0 0,.int 0 0,.int 0 0,.ref 43,.bool Bool.false,.int 181 0,.ref 44,.none,.none,.none,.none,.int 228 0,.int 6 0] 229,
 { cls:=.type "frame",slots:=#[Option.some (.ref 45),Option.some (.ref 3),Option.some (.ref 42),Option.none,Option.some (.str "toldsums.errors" 187),Option.none,Option.some (.ref 0)] },
 TO [],
 dO 2 [e P "__module__" 230 (.str "toldsums.errors" 187),e P "__firstlineno__" 234 (.int 6 233),e P "__static_attributes__" 235 (.ref 47),e P "__doc__" 236 (.none)],
 { cls:=.type "type",data:=.cls { name:="NoStretch",bases:=[.ref 24],mro:=[.ref 49,.ref 24,.type "ValueError",.type "Exception",.type "BaseException",.type "object"],ns:=48,qualname:="NoStretch" },slots:=#[Option.some (.ref 40),Option.none,Option.some (.str "NoStretch" 223),Option.some (.str "NoStretch" 231),Option.some (.builtin "ValueError.__new__"),Option.some (.bool Bool.true)] },
 FO "super" [.ref 49,.ref 49,.ref 49],
 FO "builtin_function_or_method" [.builtin "object.__init_subclass__",.ref 49],
 TO [.ref 24],
 FO "builtin_function_or_method" [.builtin "type.__prepare__",.type "type"],
 dO 4 [e P "__module__" 246 (.str "toldsums.errors" 187),e P "__qualname__" 248 (.str "NoRest" 247),e P "__firstlineno__" 250 (.int 8 249),e P "__static_attributes__" 251 (.ref 59)],
 TO [],
 NO [],
 cO "NoRest" 241 "NoRest" 242 243 [.int 8 0,.int 0 0,.int 0 0,.int 0 0,.int 0 0,.ref 55,.bool Bool.false,.int 181 0,.ref 56,.none,.none,.none,.none,.int 244 0,.int 8 0] 245,
 { cls:=.type "frame",slots:=#[Option.some (.ref 57),Option.some (.ref 3),Option.some (.ref 54),Option.none,Option.some (.str "toldsums.errors" 187),Option.none,Option.some (.ref 0)] },
 TO [],
 dO 2 [e P "__module__" 246 (.str "toldsums.errors" 187),e P "__firstlineno__" 250 (.int 8 249),e P "__static_attributes__" 251 (.ref 59),e P "__doc__" 252 (.none)],
 { cls:=.type "type",data:=.cls { name:="NoRest",bases:=[.ref 24],mro:=[.ref 61,.ref 24,.type "ValueError",.type "Exception",.type "BaseException",.type "object"],ns:=60,qualname:="NoRest" },slots:=#[Option.some (.ref 52),Option.none,Option.some (.str "NoRest" 239),Option.some (.str "NoRest" 247),Option.some (.builtin "ValueError.__new__"),Option.some (.bool Bool.true)] },
 FO "super" [.ref 61,.ref 61,.ref 61],
 FO "builtin_function_or_method" [.builtin "object.__init_subclass__",.ref 61],
 TO [.ref 24],
 FO "builtin_function_or_method" [.builtin "type.__prepare__",.type "type"],
 dO 4 [e P "__module__" 262 (.str "toldsums.errors" 187),e P "__qualname__" 264 (.str "NoPlace" 263),e P "__firstlineno__" 266 (.int 10 265),e P "__static_attributes__" 267 (.ref 71)],
 TO [],
 NO [],
 cO "NoPlace" 257 "NoPlace" 258 259 [.int 10 0,.int 0 0,.int 0 0,.int 0 0,.int 0 0,.ref 67,.bool Bool.false,.int 181 0,.ref 68,.none,.none,.none,.none,.int 260 0,.int 10 0] 261,
 { cls:=.type "frame",slots:=#[Option.some (.ref 69),Option.some (.ref 3),Option.some (.ref 66),Option.none,Option.some (.str "toldsums.errors" 187),Option.none,Option.some (.ref 0)] },
 TO [],
 dO 2 [e P "__module__" 262 (.str "toldsums.errors" 187),e P "__firstlineno__" 266 (.int 10 265),e P "__static_attributes__" 267 (.ref 71),e P "__doc__" 268 (.none)],
 { cls:=.type "type",data:=.cls { name:="NoPlace",bases:=[.ref 24],mro:=[.ref 73,.ref 24,.type "ValueError",.type "Exception",.type "BaseException",.type "object"],ns:=72,qualname:="NoPlace" },slots:=#[Option.some (.ref 64),Option.none,Option.some (.str "NoPlace" 255),Option.some (.str "NoPlace" 263),Option.some (.builtin "ValueError.__new__"),Option.some (.bool Bool.true)] },
 FO "super" [.ref 73,.ref 73,.ref 73],
 FO "builtin_function_or_method" [.builtin "object.__init_subclass__",.ref 73],
 TO [.ref 24],
 FO "builtin_function_or_method" [.builtin "type.__prepare__",.type "type"],
 dO 4 [e P "__module__" 278 (.str "toldsums.errors" 187),e P "__qualname__" 280 (.str "NoAsk" 279),e P "__firstlineno__" 282 (.int 12 281),e P "__static_attributes__" 283 (.ref 83)],
 TO [],
 NO [],
 cO "NoAsk" 273 "NoAsk" 274 275 [.int 12 0,.int 0 0,.int 0 0,.int 0 0,.int 0 0,.ref 79,.bool Bool.false,.int 181 0,.ref 80,.none,.none,.none,.none,.int 276 0,.int 12 0] 277,
 { cls:=.type "frame",slots:=#[Option.some (.ref 81),Option.some (.ref 3),Option.some (.ref 78),Option.none,Option.some (.str "toldsums.errors" 187),Option.none,Option.some (.ref 0)] },
 TO [],
 dO 2 [e P "__module__" 278 (.str "toldsums.errors" 187),e P "__firstlineno__" 282 (.int 12 281),e P "__static_attributes__" 283 (.ref 83),e P "__doc__" 284 (.none)],
 { cls:=.type "type",data:=.cls { name:="NoAsk",bases:=[.ref 24],mro:=[.ref 85,.ref 24,.type "ValueError",.type "Exception",.type "BaseException",.type "object"],ns:=84,qualname:="NoAsk" },slots:=#[Option.some (.ref 76),Option.none,Option.some (.str "NoAsk" 271),Option.some (.str "NoAsk" 279),Option.some (.builtin "ValueError.__new__"),Option.some (.bool Bool.true)] },
 FO "super" [.ref 85,.ref 85,.ref 85],
 FO "builtin_function_or_method" [.builtin "object.__init_subclass__",.ref 85],
 TO [],
 NO [],
 nO "is_number" "is_number" (top 9),
 cO "is_number" 291 "is_number" 292 293 [.int 16 0,.int 1 0,.int 0 0,.int 0 0,.int 3 0,.ref 88,.bool Bool.true,.int 181 0,.ref 89,.none,.none,.none,.ref 90,.int 294 0,.int 16 0] 295,
 fO "is_number" "is_number" (top 9) "toldsums.rows" 287 91,
 TO [],
 NO [],
 nO "row_shown" "row_shown" (top 10),
 cO "row_shown" 297 "row_shown" 298 299 [.int 23 0,.int 1 0,.int 0 0,.int 0 0,.int 3 0,.ref 93,.bool Bool.true,.int 181 0,.ref 94,.none,.none,.none,.ref 95,.int 300 0,.int 23 0] 301,
 fO "row_shown" "row_shown" (top 10) "toldsums.rows" 287 96,
 TO [],
 NO [],
 TO [.str "row" 306,.str "ahead" 307,.str "number" 308],
 TO [],
 nO "sums_ahead" "sums_ahead" (top 11),
 cO "sums_ahead" 303 "sums_ahead" 304 305 [.int 25 0,.int 1 0,.int 0 0,.int 0 0,.int 3 0,.ref 98,.bool Bool.true,.int 181 0,.ref 99,.none,.ref 100,.ref 101,.ref 102,.int 309 0,.int 25 0] 310,
 fO "sums_ahead" "sums_ahead" (top 11) "toldsums.rows" 287 103,
 TO [],
 NO [],
 nO "stretches_of" "stretches_of" (top 12),
 cO "stretches_of" 312 "stretches_of" 313 314 [.int 30 0,.int 1 0,.int 0 0,.int 0 0,.int 3 0,.ref 105,.bool Bool.true,.int 181 0,.ref 106,.none,.none,.none,.ref 107,.int 315 0,.int 30 0] 316,
 fO "stretches_of" "stretches_of" (top 12) "toldsums.rows" 287 108,
 TO [],
 NO [],
 nO "summed_stretches" "summed_stretches" (top 13),
 cO "summed_stretches" 318 "summed_stretches" 319 320 [.int 33 0,.int 1 0,.int 0 0,.int 0 0,.int 3 0,.ref 110,.bool Bool.true,.int 181 0,.ref 111,.none,.none,.none,.ref 112,.int 321 0,.int 33 0] 322,
 fO "summed_stretches" "summed_stretches" (top 13) "toldsums.rows" 287 113,
 TO [],
 NO [],
 TO [.str "stretch" 327,.str "low" 328,.str "high" 329],
 TO [],
 nO "length_of" "length_of" (top 14),
 cO "length_of" 324 "length_of" 325 326 [.int 36 0,.int 1 0,.int 0 0,.int 0 0,.int 3 0,.ref 115,.bool Bool.true,.int 181 0,.ref 116,.none,.ref 117,.ref 118,.ref 119,.int 330 0,.int 36 0] 331,
 fO "length_of" "length_of" (top 14) "toldsums.rows" 287 120,
 TO [],
 NO [],
 TO [.str "stretches" 336],
 TO [],
 nO "first_of" "first_of" (top 15),
 cO "first_of" 333 "first_of" 334 335 [.int 39 0,.int 1 0,.int 0 0,.int 0 0,.int 3 0,.ref 122,.bool Bool.true,.int 181 0,.ref 123,.none,.ref 124,.ref 125,.ref 126,.int 337 0,.int 39 0] 338,
 fO "first_of" "first_of" (top 15) "toldsums.rows" 287 127,
 TO [],
 NO [],
 TO [.str "stretches" 343],
 TO [],
 nO "longest_of" "longest_of" (top 16),
 cO "longest_of" 340 "longest_of" 341 342 [.int 41 0,.int 1 0,.int 0 0,.int 0 0,.int 3 0,.ref 129,.bool Bool.true,.int 181 0,.ref 130,.none,.ref 131,.ref 132,.ref 133,.int 344 0,.int 41 0] 345,
 fO "longest_of" "longest_of" (top 16) "toldsums.rows" 287 134,
 TO [],
 NO [],
 TO [.str "stretches" 350],
 TO [],
 nO "shortest_of" "shortest_of" (top 17),
 cO "shortest_of" 347 "shortest_of" 348 349 [.int 43 0,.int 1 0,.int 0 0,.int 0 0,.int 3 0,.ref 136,.bool Bool.true,.int 181 0,.ref 137,.none,.ref 138,.ref 139,.ref 140,.int 351 0,.int 43 0] 352,
 fO "shortest_of" "shortest_of" (top 17) "toldsums.rows" 287 141,
 TO [],
 NO [],
 nO "all_with" "all_with" (top 19),
 cO "all_with" 356 "all_with" 357 358 [.int 46 0,.int 2 0,.int 0 0,.int 0 0,.int 3 0,.ref 143,.bool Bool.true,.int 181 0,.ref 144,.none,.none,.none,.ref 145,.int 359 0,.int 46 0] 360,
 fO "all_with" "all_with" (top 19) "toldsums.told" 354 146,
 TO [],
 NO [],
 TO [.str "row" 367,.str "total" 368,.str "most" 369,.str "chosen" 370,.str "place" 371,.str "low" 372,.str "high" 373],
 TO [],
 nO "most_apart" "most_apart" (top 21),
 cO "most_apart" 364 "most_apart" 365 366 [.int 49 0,.int 2 0,.int 0 0,.int 0 0,.int 3 0,.ref 148,.bool Bool.true,.int 181 0,.ref 149,.none,.ref 150,.ref 151,.ref 152,.int 374 0,.int 49 0] 375,
 fO "most_apart" "most_apart" (top 21) "toldsums.apart" 362 153,
 TO [],
 NO [],
 nO "best_from" "best_from" (top 22),
 cO "best_from" 377 "best_from" 378 379 [.int 58 0,.int 3 0,.int 0 0,.int 0 0,.int 3 0,.ref 155,.bool Bool.true,.int 181 0,.ref 156,.none,.none,.none,.ref 157,.int 380 0,.int 58 0] 381,
 fO "best_from" "best_from" (top 22) "toldsums.apart" 362 158,
 TO [],
 NO [],
 TO [.str "row" 386,.str "total" 387],
 TO [],
 nO "count_partings" "count_partings" (top 23),
 cO "count_partings" 383 "count_partings" 384 385 [.int 67 0,.int 2 0,.int 0 0,.int 0 0,.int 3 0,.ref 160,.bool Bool.true,.int 181 0,.ref 161,.none,.ref 162,.ref 163,.ref 164,.int 388 0,.int 67 0] 389,
 fO "count_partings" "count_partings" (top 23) "toldsums.apart" 362 165]
noncomputable def mO2:Params→List Obj:=fun P=>(((mO1 P).set 3 (dO 58 [e P "__name__" 165 (.str "toldsums.whole" 483),e P "__doc__" 166 (.none),e P "__package__" 167 (.none),e P "__loader__" 168 (.builtin "__main__.__loader__#opaque"),e P "__spec__" 169 (.none),e P "__annotations__" 170 (.ref 6),e P "__builtins__" 171 (.ref 4),e P "__file__" 173 (.str "/claim/cut.py" 172),e P "__cached__" 174 (.none),e P "SumError" 206 (.ref 24),e P "NoText" 222 (.ref 37),e P "NoStretch" 238 (.ref 49),e P "NoRest" 254 (.ref 61),e P "NoPlace" 270 (.ref 73),e P "NoAsk" 286 (.ref 85),e P "FIGURES" 290 (.str "0123456789" 289),e P "is_number" 296 (.ref 92),e P "row_shown" 302 (.ref 97),e P "sums_ahead" 311 (.ref 104),e P "stretches_of" 317 (.ref 109),e P "summed_stretches" 323 (.ref 114),e P "length_of" 332 (.ref 121),e P "first_of" 339 (.ref 128),e P "longest_of" 346 (.ref 135),e P "shortest_of" 353 (.ref 142),e P "all_with" 361 (.ref 147),e P "most_apart" 376 (.ref 154),e P "best_from" 382 (.ref 159),e P "count_partings" 390 (.ref 166),e P "first_parting" 403 (.ref 173),e P "partings_from" 414 (.ref 180),e P "all_within" 422 (.ref 185),e P "row_led" 433 (.ref 192),e P "in_order" 444 (.ref 199),e P "nearest" 453 (.ref 206),e P "points_of" 466 (.ref 213),e P "look_at_rest" 476 (.ref 220),e P "all_rest" 482 (.ref 225),e P "LETTERS" 486 (.str "abcdefghijklmnopqrstuvwxyz" 485),e P "NAME_LETTERS" 488 (.int 8 487),e P "ROW_NUMBERS" 490 (.int 60 489),e P "ROW_FIGURES" 492 (.int 12 491),e P "ASKED_FIGURES" 494 (.int 14 493),e P "is_name" 500 (.ref 230),e P "number_read" 508 (.ref 237),e P "row_of_words" 514 (.ref 242),e P "stretch_shown" 523 (.ref 249),e P "summed_shown" 532 (.ref 256),e P "four_rows" 538 (.ref 261),e P "answer_show" 546 (.ref 268),e P "answer_count" 554 (.ref 275),e P "answer_within" 562 (.ref 282),e P "answer_rest" 570 (.ref 289),e P "answer_order" 578 (.ref 296),e P "answer_near" 587 (.ref 303),e P "answer_apart" 593 (.ref 308),e P "answer_points" 601 (.ref 315),e P "answer_parted" 607 (.ref 320)])).set 12 (NO [.int 2 0,.int 0 0,.ref 20,.int 4 0,.int 0 0,.ref 33,.int 6 0,.int 0 0,.ref 45,.int 8 0,.int 0 0,.ref 57,.int 10 0,.int 0 0,.ref 69,.int 12 0,.int 0 0,.ref 81,.int 16 0,.int 0 0,.ref 91,.int 23 0,.int 0 0,.ref 96,.int 25 0,.int 0 0,.ref 103,.int 30 0,.int 0 0,.ref 108,.int 33 0,.int 0 0,.ref 113,.int 36 0,.int 0 0,.ref 120,.int 39 0,.int 0 0,.ref 127,.int 41 0,.int 0 0,.ref 134,.int 43 0,.int 0 0,.ref 141,.int 46 0,.int 0 0,.ref 146,.int 49 0,.int 0 0,.ref 153,.int 58 0,.int 0 0,.ref 158,.int 67 0,.int 0 0,.ref 165,.int 69 0,.int 0 0,.ref 172,.int 80 0,.int 0 0,.ref 179,.int 86 0,.int 0 0,.ref 184,.int 89 0,.int 0 0,.ref 191,.int 94 0,.int 0 0,.ref 198,.int 99 0,.int 0 0,.ref 205,.int 102 0,.int 0 0,.ref 212,.int 109 0,.int 0 0,.ref 219,.int 112 0,.int 0 0,.ref 224,.int 121 0,.int 0 0,.ref 229,.int 123 0,.int 0 0,.ref 236,.int 127 0,.int 0 0,.ref 241,.int 131 0,.int 0 0,.ref 248,.int 136 0,.int 0 0,.ref 255,.int 139 0,.int 0 0,.ref 260,.int 142 0,.int 0 0,.ref 267,.int 144 0,.int 0 0,.ref 274,.int 146 0,.int 0 0,.ref 281,.int 148 0,.int 0 0,.ref 288,.int 150 0,.int 0 0,.ref 295,.int 152 0,.int 0 0,.ref 302,.int 155 0,.int 0 0,.ref 307,.int 157 0,.int 0 0,.ref 314,.int 159 0,.int 0 0,.ref 319]))++[
 TO [],
 NO [],
 TO [.str "row" 394,.str "total" 395,.str "ways" 396,.str "chosen" 397,.str "place" 398,.str "low" 399,.str "high" 400],
 TO [],
 nO "first_parting" "first_parting" (top 24),
 cO "first_parting" 391 "first_parting" 392 393 [.int 69 0,.int 2 0,.int 0 0,.int 0 0,.int 3 0,.ref 167,.bool Bool.true,.int 181 0,.ref 168,.none,.ref 169,.ref 170,.ref 171,.int 401 0,.int 69 0] 402,
 fO "first_parting" "first_parting" (top 24) "toldsums.apart" 362 172,
 TO [],
 NO [],
 TO [.str "row" 407,.str "total" 408,.str "ways" 409,.str "low" 410,.str "high" 411],
 TO [],
 nO "partings_from" "partings_from" (top 25),
 cO "partings_from" 404 "partings_from" 405 406 [.int 80 0,.int 2 0,.int 0 0,.int 0 0,.int 3 0,.ref 174,.bool Bool.true,.int 181 0,.ref 175,.none,.ref 176,.ref 177,.ref 178,.int 412 0,.int 80 0] 413,
 fO "partings_from" "partings_from" (top 25) "toldsums.apart" 362 179,
 TO [],
 NO [],
 nO "all_within" "all_within" (top 27),
 cO "all_within" 417 "all_within" 418 419 [.int 86 0,.int 3 0,.int 0 0,.int 0 0,.int 3 0,.ref 181,.bool Bool.true,.int 181 0,.ref 182,.none,.none,.none,.ref 183,.int 420 0,.int 86 0] 421,
 fO "all_within" "all_within" (top 27) "toldsums.bounds" 415 184,
 TO [],
 NO [],
 TO [.str "row" 428,.str "place" 429,.str "number" 430],
 TO [],
 nO "row_led" "row_led" (top 29),
 cO "row_led" 425 "row_led" 426 427 [.int 89 0,.int 3 0,.int 0 0,.int 0 0,.int 3 0,.ref 186,.bool Bool.true,.int 181 0,.ref 187,.none,.ref 188,.ref 189,.ref 190,.int 431 0,.int 89 0] 432,
 fO "row_led" "row_led" (top 29) "toldsums.kept" 423 191,
 TO [],
 NO [],
 TO [.str "row" 439,.str "number" 440,.str "order" 441],
 TO [],
 nO "in_order" "in_order" (top 31),
 cO "in_order" 436 "in_order" 437 438 [.int 94 0,.int 2 0,.int 0 0,.int 0 0,.int 3 0,.ref 193,.bool Bool.true,.int 181 0,.ref 194,.none,.ref 195,.ref 196,.ref 197,.int 442 0,.int 94 0] 443,
 fO "in_order" "in_order" (top 31) "toldsums.orders" 434 198,
 TO [],
 NO [],
 TO [.str "row" 448,.str "total" 449],
 TO [.str "total" 450],
 nO "nearest" "nearest" (top 32),
 cO "nearest" 445 "nearest" 446 447 [.int 99 0,.int 2 0,.int 0 0,.int 0 0,.int 3 0,.ref 200,.bool Bool.true,.int 181 0,.ref 201,.none,.ref 202,.ref 203,.ref 204,.int 451 0,.int 99 0] 452,
 fO "nearest" "nearest" (top 32) "toldsums.orders" 434 205,
 TO [],
 NO [],
 TO [.str "row" 459,.str "total" 460,.str "points" 461,.str "low" 462,.str "high" 463],
 TO [],
 nO "points_of" "points_of" (top 34),
 cO "points_of" 456 "points_of" 457 458 [.int 102 0,.int 2 0,.int 0 0,.int 0 0,.int 3 0,.ref 207,.bool Bool.true,.int 181 0,.ref 208,.none,.ref 209,.ref 210,.ref 211,.int 464 0,.int 102 0] 465,
 fO "points_of" "points_of" (top 34) "toldsums.papers" 454 212,
 TO [],
 NO [],
 TO [.str "m" 472,.str "rest" 473],
 TO [],
 nO "look_at_rest" "look_at_rest" (top 36),
 cO "look_at_rest" 469 "look_at_rest" 470 471 [.int 109 0,.int 2 0,.int 0 0,.int 0 0,.int 3 0,.ref 214,.bool Bool.true,.int 181 0,.ref 215,.none,.ref 216,.ref 217,.ref 218,.int 474 0,.int 109 0] 475,
 fO "look_at_rest" "look_at_rest" (top 36) "toldsums.rests" 467 219,
 TO [],
 NO [],
 nO "all_rest" "all_rest" (top 37),
 cO "all_rest" 477 "all_rest" 478 479 [.int 112 0,.int 3 0,.int 0 0,.int 0 0,.int 3 0,.ref 221,.bool Bool.true,.int 181 0,.ref 222,.none,.none,.none,.ref 223,.int 480 0,.int 112 0] 481,
 fO "all_rest" "all_rest" (top 37) "toldsums.rests" 467 224,
 TO [],
 NO [],
 nO "is_name" "is_name" (top 44),
 cO "is_name" 495 "is_name" 496 497 [.int 121 0,.int 1 0,.int 0 0,.int 0 0,.int 3 0,.ref 226,.bool Bool.true,.int 181 0,.ref 227,.none,.none,.none,.ref 228,.int 498 0,.int 121 0] 499,
 fO "is_name" "is_name" (top 44) "toldsums.whole" 483 229,
 TO [],
 NO [],
 TO [.str "word" 504,.str "figures" 505],
 TO [],
 nO "number_read" "number_read" (top 45),
 cO "number_read" 501 "number_read" 502 503 [.int 123 0,.int 2 0,.int 0 0,.int 0 0,.int 3 0,.ref 231,.bool Bool.true,.int 181 0,.ref 232,.none,.ref 233,.ref 234,.ref 235,.int 506 0,.int 123 0] 507,
 fO "number_read" "number_read" (top 45) "toldsums.whole" 483 236,
 TO [],
 NO [],
 nO "row_of_words" "row_of_words" (top 46),
 cO "row_of_words" 509 "row_of_words" 510 511 [.int 127 0,.int 1 0,.int 0 0,.int 0 0,.int 3 0,.ref 238,.bool Bool.true,.int 181 0,.ref 239,.none,.none,.none,.ref 240,.int 512 0,.int 127 0] 513,
 fO "row_of_words" "row_of_words" (top 46) "toldsums.whole" 483 241,
 TO [],
 NO [],
 TO [.str "stretch" 518,.str "low" 519,.str "high" 520],
 TO [],
 nO "stretch_shown" "stretch_shown" (top 47),
 cO "stretch_shown" 515 "stretch_shown" 516 517 [.int 131 0,.int 1 0,.int 0 0,.int 0 0,.int 3 0,.ref 243,.bool Bool.true,.int 181 0,.ref 244,.none,.ref 245,.ref 246,.ref 247,.int 521 0,.int 131 0] 522,
 fO "stretch_shown" "stretch_shown" (top 47) "toldsums.whole" 483 248,
 TO [],
 NO [],
 TO [.str "pair" 527,.str "own" 528,.str "stretch" 529],
 TO [],
 nO "summed_shown" "summed_shown" (top 48),
 cO "summed_shown" 524 "summed_shown" 525 526 [.int 136 0,.int 1 0,.int 0 0,.int 0 0,.int 3 0,.ref 250,.bool Bool.true,.int 181 0,.ref 251,.none,.ref 252,.ref 253,.ref 254,.int 530 0,.int 136 0] 531,
 fO "summed_shown" "summed_shown" (top 48) "toldsums.whole" 483 255,
 TO [],
 NO [],
 nO "four_rows" "four_rows" (top 49),
 cO "four_rows" 533 "four_rows" 534 535 [.int 139 0,.int 1 0,.int 0 0,.int 0 0,.int 3 0,.ref 257,.bool Bool.true,.int 181 0,.ref 258,.none,.none,.none,.ref 259,.int 536 0,.int 139 0] 537,
 fO "four_rows" "four_rows" (top 49) "toldsums.whole" 483 260,
 TO [],
 NO [],
 TO [.str "row" 542,.str "numbers" 543],
 TO [],
 nO "answer_show" "answer_show" (top 50),
 cO "answer_show" 539 "answer_show" 540 541 [.int 142 0,.int 2 0,.int 0 0,.int 0 0,.int 3 0,.ref 262,.bool Bool.true,.int 181 0,.ref 263,.none,.ref 264,.ref 265,.ref 266,.int 544 0,.int 142 0] 545,
 fO "answer_show" "answer_show" (top 50) "toldsums.whole" 483 267,
 TO [],
 NO [],
 TO [.str "row" 550,.str "numbers" 551],
 TO [],
 nO "answer_count" "answer_count" (top 51),
 cO "answer_count" 547 "answer_count" 548 549 [.int 144 0,.int 2 0,.int 0 0,.int 0 0,.int 3 0,.ref 269,.bool Bool.true,.int 181 0,.ref 270,.none,.ref 271,.ref 272,.ref 273,.int 552 0,.int 144 0] 553,
 fO "answer_count" "answer_count" (top 51) "toldsums.whole" 483 274,
 TO [],
 NO [],
 TO [.str "row" 558,.str "numbers" 559],
 TO [],
 nO "answer_within" "answer_within" (top 52),
 cO "answer_within" 555 "answer_within" 556 557 [.int 146 0,.int 2 0,.int 0 0,.int 0 0,.int 3 0,.ref 276,.bool Bool.true,.int 181 0,.ref 277,.none,.ref 278,.ref 279,.ref 280,.int 560 0,.int 146 0] 561,
 fO "answer_within" "answer_within" (top 52) "toldsums.whole" 483 281,
 TO [],
 NO [],
 TO [.str "row" 566,.str "numbers" 567],
 TO [],
 nO "answer_rest" "answer_rest" (top 53),
 cO "answer_rest" 563 "answer_rest" 564 565 [.int 148 0,.int 2 0,.int 0 0,.int 0 0,.int 3 0,.ref 283,.bool Bool.true,.int 181 0,.ref 284,.none,.ref 285,.ref 286,.ref 287,.int 568 0,.int 148 0] 569,
 fO "answer_rest" "answer_rest" (top 53) "toldsums.whole" 483 288,
 TO [],
 NO [],
 TO [.str "row" 574,.str "numbers" 575],
 TO [],
 nO "answer_order" "answer_order" (top 54),
 cO "answer_order" 571 "answer_order" 572 573 [.int 150 0,.int 2 0,.int 0 0,.int 0 0,.int 3 0,.ref 290,.bool Bool.true,.int 181 0,.ref 291,.none,.ref 292,.ref 293,.ref 294,.int 576 0,.int 150 0] 577,
 fO "answer_order" "answer_order" (top 54) "toldsums.whole" 483 295,
 TO [],
 NO [],
 TO [.str "row" 582,.str "numbers" 583,.str "pair" 584],
 TO [],
 nO "answer_near" "answer_near" (top 55),
 cO "answer_near" 579 "answer_near" 580 581 [.int 152 0,.int 2 0,.int 0 0,.int 0 0,.int 3 0,.ref 297,.bool Bool.true,.int 181 0,.ref 298,.none,.ref 299,.ref 300,.ref 301,.int 585 0,.int 152 0] 586,
 fO "answer_near" "answer_near" (top 55) "toldsums.whole" 483 302,
 TO [],
 NO [],
 nO "answer_apart" "answer_apart" (top 56),
 cO "answer_apart" 588 "answer_apart" 589 590 [.int 155 0,.int 2 0,.int 0 0,.int 0 0,.int 3 0,.ref 304,.bool Bool.true,.int 181 0,.ref 305,.none,.none,.none,.ref 306,.int 591 0,.int 155 0] 592,
 fO "answer_apart" "answer_apart" (top 56) "toldsums.whole" 483 307,
 TO [],
 NO [],
 TO [.str "row" 597,.str "numbers" 598],
 TO [],
 nO "answer_points" "answer_points" (top 57),
 cO "answer_points" 594 "answer_points" 595 596 [.int 157 0,.int 2 0,.int 0 0,.int 0 0,.int 3 0,.ref 309,.bool Bool.true,.int 181 0,.ref 310,.none,.ref 311,.ref 312,.ref 313,.int 599 0,.int 157 0] 600,
 fO "answer_points" "answer_points" (top 57) "toldsums.whole" 483 314,
 TO [],
 NO [],
 nO "answer_parted" "answer_parted" (top 58),
 cO "answer_parted" 602 "answer_parted" 603 604 [.int 159 0,.int 2 0,.int 0 0,.int 0 0,.int 3 0,.ref 316,.bool Bool.true,.int 181 0,.ref 317,.none,.none,.none,.ref 318,.int 605 0,.int 159 0] 606,
 fO "answer_parted" "answer_parted" (top 58) "toldsums.whole" 483 319]
section
open PySem.W
def Xt_:Shared→Bool:=fun s=>xlAt qq [] s&&recOk (RowW.records (OpenRow.toRowW PySem.Challenge.rw_toldsums_k37_desk_refused.row)) s
def bt (l:List Obj):BT:=(l.foldl (fun(x:BT×Nat) o=>(x.1.ins x.2 o,x.2+1)) (.nil,0)).1
abbrev pp:Program:=PySem.Challenge.pw_toldsums_k37_desk_refused
def bb:List Stmt:=behindTheImports pp
def kh:Env:={ scope:=pp.main.scope,locals:=mainNs,globals:=mainNs,cells:=[],code:=.ref 13,frame:=some 14 }
def cc:Code:=.body bb kh
abbrev p0:Pos:=⟨0,0,0,0⟩
abbrev p2:Pos:=⟨282,0,307,91⟩
abbrev an:Option Value:=some (.ref 6)
abbrev rw_:String:="special-get-raises"
abbrev ll:List Str:=["ANSWERS","NUMBERS_ASKED"]
noncomputable def s0 (w:World) (os:OsState):Shared:=⟨boot_heap w.params,Array.mk [],boot_drawn,boot_toks,os⟩
theorem c0:∀w:World,((boot_heap w.params).isNs mainGlobals&&(Array.mk []:Array GenState).size==0,(boot_heap w.params).objs.size,(boot_heap w.params).nsMap mainGlobals "__annotations__")=(true,11,an):=fun w=>by kernel_rfl
noncomputable def sa (w:World) (os:OsState):Shared:=match topGo treeTable pp w 11 an 12 (s0 w os) (topStub pp) with|some (s,_)=>s|none=>s0 w os
theorem c1:∀w:World,(fun os=>topGo treeTable pp w 11 an 12 (s0 w os) (topStub pp))=fun os=>some (sa w os,⟨denote treeTable cc,cc,p0,[topFrame p0]⟩):=fun w=>by kernel_rfl
theorem c2:∀w:World,(fun os=>segRun treeTable pp w 11 an 1 1 (sa w os) (blockOf bb kh cc p0 [topFrame p0]))=fun os=>some (.next,sa w os,cc,p0):=fun w=>by kernel_rfl
noncomputable def sT (w:World) (os:OsState):SharedT:=⟨bt (sa w os).heap.objs.toList,(sa w os).heap.objs.size,(sa w os).heap.life,(sa w os).gens,(sa w os).drawn,(sa w os).toks,(sa w os).os⟩
theorem c2t:∀w:World,(fun os=>(sT w os).abs)=fun os=>sa w os:=fun w=>by kernel_rfl
abbrev zq1:Pos:=⟨67,0,68,39⟩
abbrev ZR1:List Stmt:=bb.drop 24
noncomputable def ZS1 (w:World) (os:OsState):SharedT:=⟨bt (mO1 w.params),167,{},Array.mk [],{},391,os⟩
theorem zd1:∀w:World,(fun os=>segRunT treeTable pp w 11 an 1 1667 (sT w os) (piecesOf (bb.take 24) kh cc p0 [topFrame p0]))=fun os=>some (.next,ZS1 w os,cc,zq1):=fun w=>by kernel_rfl
abbrev zq2:Pos:=⟨159,0,162,94⟩
abbrev ZR2:List Stmt:=ZR1.drop 35
noncomputable def ZS2 (w:World) (os:OsState):SharedT:=⟨bt (mO2 w.params),321,{},Array.mk [],{},608,os⟩
theorem zd2:∀w:World,(fun os=>segRunT treeTable pp w 11 an 1 809 (ZS1 w os) (piecesOf (ZR1.take 35) kh cc zq1 [topFrame p0]))=fun os=>some (.next,ZS2 w os,cc,zq2):=fun w=>by kernel_rfl
noncomputable def sE (w:World) (os:OsState):SharedT:=match segRunT treeTable pp w 11 an 1 959 (ZS2 w os) (piecesOf ZR2 kh cc zq2 [topFrame p0]) with|some (_,s,_,_)=>s|none=>ZS2 w os
abbrev C4 (b:Bool):Prop:=∀w:World,(fun os=>segRunT treeTable pp (w.withFollow rw_ b) 11 an 1 959 (ZS2 (w.withFollow rw_ b) os) (piecesOf ZR2 kh cc zq2 [topFrame p0]))=fun os=>some (.next,sE (w.withFollow rw_ b) os,cc,p2)
theorem c4F:C4 false:=fun w=>by kernel_rfl
theorem c4T:C4 true:=fun w=>by kernel_rfl
abbrev C5 (b:Bool):Prop:=∀w:World,(fun os=>(topRun treeTable pp (w.withFollow rw_ b) 11 an 2 (sE (w.withFollow rw_ b) os).abs ⟨doneF .next,cc,p2,[topFrame p0]⟩).map fun s₁=>((staticsOk (importedModules pp.main.body) (boot_heap (w.withFollow rw_ b).params) s₁.heap&&namesBound pp s₁.heap&&gensDone s₁&&laidKept (boot_heap (w.withFollow rw_ b).params) s₁.heap),openSeen qq ll (importedModules pp.main.body) Xt_ true s₁,Hook.obs HK s₁))=fun _=>some (true,openGood qq ll,Hook.val HK (w.withFollow rw_ b))
theorem c5F:C5 false:=fun w=>by kernel_rfl
theorem c5T:C5 true:=fun w=>by kernel_rfl
theorem op_:opening pp=plainProg pp.main.scope.names:=by kernel_rfl
theorem hlL:LeftO pp qq ll Xt_ (Hook.obs HK) (Hook.val HK) 6990 true:=fun w=>by
 obtain⟨⟨h',gs,d,k,os⟩,a,b⟩:=Option.map_eq_some_iff.mp (boot_open (p:=pp) (N:=6990) op_ rfl (fun _=>rfl) w)
 obtain⟨rfl,rfl,rfl,rfl⟩:h'=boot_heap w.params∧gs=Array.mk []∧d=boot_drawn∧k=boot_toks:=by simpa using b
 have e:=World.withFollow_self w rw_
 have h4:C4 (w.params.followText rw_):=match w.params.followText rw_ with|false=>c4F|true=>c4T
 have h5:C5 (w.params.followText rw_):=match w.params.followText rw_ with|false=>c5F|true=>c5T
 have h4:=congrFun (h4 w) os
 have h5:=congrFun (h5 w) os
 rw[e] at h4 h5
 obtain⟨s₁,r5,l5⟩:=Option.map_eq_some_iff.mp h5
 obtain⟨l1,l2,l3⟩:_∧_∧_:=by simpa only [Prod.mk.injEq] using l5
 have r:topRun treeTable pp w 11 an (12+(1+(1667+(809+(959+(2)))))) (s0 w os) (topStub pp)=some s₁:=by
  refine go_top (congrFun (c1 w) os) ?_
  refine piece_block (congrFun (c2 w) os) ?_
  have e1:∀n s,topRun treeTable pp w 11 an n s (restOf (bb.take 24++ZR1) kh cc p0 [topFrame p0])=topRun treeTable pp w 11 an n s (restOf bb kh cc p0 [topFrame p0]):=fun n s=>by rw[List.take_append_drop]
  rw[←e1,←congrFun (c2t w) os]
  refine piece_app (segRun_of (congrFun (zd1 w) os)) ?_
  have e2:∀n s,topRun treeTable pp w 11 an n s (restOf (ZR1.take 35++ZR2) kh cc zq1 [topFrame p0])=topRun treeTable pp w 11 an n s (restOf ZR1 kh cc zq1 [topFrame p0]):=fun n s=>by rw[List.take_append_drop]
  rw[←e2]
  refine piece_app (segRun_of (congrFun (zd2 w) os)) ?_
  have ez:∀n s,topRun treeTable pp w 11 an n s (restOf (ZR2++[]) kh cc zq2 [topFrame p0])=topRun treeTable pp w 11 an n s (restOf ZR2 kh cc zq2 [topFrame p0]):=fun n s=>by rw[List.append_nil]
  rw[←ez]
  exact piece_app (segRun_of h4) (piece_nil r5)
 have r:=topRun_mono (6990-(12+(1+(1667+(809+(959+(2))))))) _ _ _ _ r
 rw[show(12+(1+(1667+(809+(959+(2))))))+(6990-(12+(1+(1667+(809+(959+(2)))))))=6990 by decide] at r
 obtain⟨z1,z2,z3⟩:_∧_∧_:=by simpa only [Prod.mk.injEq] using c0 w
 have t:topFrom treeTable pp w 6990 (s0 w os)=some s₁:=by
  unfold topFrom s0
  dsimp only
  rw[z1,z2,z3]
  show((topRun treeTable pp w 11 an 6990 (s0 w os) (topStub pp)).bind _)=_
  rw[r]
  show(match staticsOk (importedModules pp.main.body) (boot_heap w.params) s₁.heap&&namesBound pp s₁.heap&&gensDone s₁&&laidKept (boot_heap w.params) s₁.heap with|true=>some s₁|false=>none)=_
  rw[l1]
 unfold openEnds
 rw[a]
 show(topFrom treeTable pp w 6990 (s0 w os)).map _=_
 rw[t]
 exact congrArg some (Prod.ext l2 l3)
theorem said_:(PySem.Challenge.rw_toldsums_k37_desk_refused).wellSaid=true:=by kernel_rfl
end
end
end My
open PySem PySem.W PyProof.Rows
set_option maxRecDepth 100000 in
set_option maxHeartbeats 0 in
theorem PySem.Challenge.cw_toldsums_k37_desk_refused_holds : PySem.Challenge.rw_toldsums_k37_desk_refused.Holds := by
 w_on
 refine holds_law My.said_ fun said=>?_
 refine holds_open (q:=My.qq) (loose:=["ANSWERS","NUMBERS_ASKED"]) (Xt:=My.Xt_) (XP:=XL My.qq []) (Yf:=Hook.obs My.HK) (Ya:=Hook.val My.HK) (YP:=Hook.says My.HK) (N:=6990) ?hl (Hook.of My.HK) (Hook.keeps My.HK) (fun s e=>xl_of s (Bool.and_eq_true_iff.mp e).1) XL.keeps (by rfl) (by rfl) (by rfl) (fun s e=>recFacts_of (Bool.and_eq_true_iff.mp e).2) (by rfl) said (by kernel_rfl) ⟨rfl,rfl,rfl,rfl,rfl,by decide +kernel⟩ ?hw ?hc
 case hw=>w_witness2
 case hl=>exact My.hlL
 exact My.walk
