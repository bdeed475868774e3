import PyProof.Rows.All
import Wide.All
import OpenK.AllK
import Wide.FinOn
import PyProof.EqAt
import PyProof.EqKinds
import PyProof.TupleCall
import KE.BitLaws
import PyProof.ExcArgsOwn
import PyProof.InstStore
import PyProof.RaisesMany
import PyProof.RulesTry
import PyProof.ExcClass
import PyProof.ExcInit
import PyProof.InstStoreFacts
import PyProof.ExcAttrAll.Exception
import PyProof.RulesAs
import PyProof.NsDelKeeps
import PyProof.Rows.SetFrom
import PyProof.FactsAll.set_1
import KE.KDictSum
import PyProof.TupleKey
import PyProof.DictRoadsH
import PyProof.ZipIter
import PyProof.ListNew
import Open.SpecLaws
import KE.OsHead
import KE.OsGo
import PySem.Challenge.RW_cancome_s01_answers
set_option Elab.async false
set_option linter.all false
set_option maxRecDepth 100000
set_option maxHeartbeats 8000000
namespace Al
open PySem
abbrev Kv:=@List.length_map
abbrev Kw:=@List.getElem?_map
abbrev Kx:=@List.length_cons
abbrev Ky:=@List.length_append
abbrev Kz:=@List.getElem?_eq_getElem
abbrev KA:=@List.mem_of_getElem?
abbrev KB:=@Heap.get?_push_of_some
abbrev KC:=@Heap.lt_size
abbrev KD:=@Heap.get?_push_size
abbrev KF:=@Option.map_eq_some_iff
abbrev KG:=@Nat.le_refl
abbrev KH:=@List.mem_cons_of_mem
abbrev KJ:=@List.mem_cons_self
abbrev KM:=@Bool.false_ne_true
abbrev KO:=@List.map_append
abbrev KP:=@List.getD_eq_getElem?_getD
abbrev KQ:=@List.getElem?_eq_some_iff
abbrev KR:=@List.map_cons
abbrev KS:=@List.take_of_length_le
abbrev KU:=@Nat.lt_of_lt_of_le
abbrev KW:=@List.size_toArray
abbrev KY:=@List.length_singleton
abbrev KZ:=@Nat.zero_le
abbrev L0:=@List.length_nil
abbrev L5:=@Bool.not_eq_true'
abbrev L6:=@decide_eq_false_iff_not
abbrev L7:=@Bool.and_eq_true
abbrev L8:=@List.getElem?_eq_none
abbrev L9:=@List.length_take
abbrev La:=@List.length_range
abbrev Lb:=@List.mem_append
abbrev Lc:=@List.map_map
abbrev Ld:=@List.append_assoc
abbrev Le:=@List.getElem?_append_right
abbrev Lf:=@List.getElem?_append_left
abbrev Lg:=@List.length_filter_le
abbrev Lh:=@Nat.le_trans
abbrev Li:=@Nat.lt_irrefl
abbrev Lj:=@Nat.ne_of_lt
abbrev Lk:=@Int.toNat_natCast
abbrev Ll:=@decide_eq_true
abbrev Lm:=@of_decide_eq_true
abbrev Ln:=@decide_eq_false
abbrev Lo:=@List.take_length
abbrev Lp:=@List.append_nil
abbrev Lq:=@List.mem_singleton
abbrev Lr:=@List.mem_filter
abbrev Ls:=@List.mem_map
abbrev Lu:=@Array.length_toList
abbrev Lv:=@Heap.get?_update_other
abbrev Lw:=@Heap.get?_update_self
abbrev Lx:=@Obj.isFreed_of_fields
abbrev Ly:=@Bool.and_eq_true_iff
abbrev Lz:=@List.flatMap_cons
abbrev LA:=@List.flatMap_append
abbrev LB:=@List.length_set
abbrev LC:=@List.getElem?_set_self
abbrev LD:=@List.getElem?_set_ne
abbrev LF:=@List.find?_eq_none
abbrev LG:=@Heap.get?_none_of_le
abbrev LH:=@decide_eq_true_iff
abbrev LI:=@Nat.lt_of_le_of_lt
abbrev LJ:=@List.not_mem_nil
abbrev LK:=@List.filter_cons
abbrev LL:=@List.filter_nil
abbrev LM:=@List.filter_append
abbrev LN:=@Nat.ne_of_gt
abbrev LO:=@Nat.lt_succ_self
abbrev LP:=@Heap.size_push
abbrev LQ:=@List.contains_iff_mem
abbrev LR:=@Nat.le_of_lt
abbrev LS:=@Option.some.inj
abbrev LU:=@Nat.le_of_eq
end Al
open Al
open PySem.W(Frag nsIn findIn keepIn codeIn mg_of fnOf mg_none_of makesIn isFn emptyDict instObj)
open Vbavai(nodeAt tokens)
namespace L2
open PySem PySem.Spec PyProof.Rows
abbrev di:=Sum Int Str
def mZ:di->Value->Bool
 | .inl k,v=>Value.isInt k v
 | .inr x,v=>Value.isStrOf x v
def JJ(w:World):di->Int
 | .inl k=>hashInt k
 | .inr x=>hashStr w x
theorem cn:∀{k:di}{v:Value},mZ k v=true->(∃i t,k=Sum.inl i∧v=Value.int i t)∨(∃x t,k=Sum.inr x∧v=Value.str x t)
 | .inl i,v,h=>by
  obtain⟨t,e⟩:=Value.isInt_shape (k:=i) (v:=v) h;exact .inl ⟨i,t,rfl,e⟩
 | .inr x,v,h=>by
  obtain⟨t,e⟩:=Value.isStrOf_shape (x:=x) (v:=v) h;exact .inr ⟨x,t,rfl,e⟩
theorem Bn(i:Int)(t:Tok):mZ (.inl i) (.int i t)=true:=by simp[mZ,Value.isInt]
theorem C5(x:Str)(t:Tok):mZ (.inr x) (.str x t)=true:=by simp[mZ,Value.isStrOf]
theorem Hq(a b:Int):decide ((Sum.inl a:di)=Sum.inl b)=(a==b):=by
 by_cases e:a=b
 ·subst e;simp
 ·have h:¬(Sum.inl a:di)=Sum.inl b:=fun q=>e (Sum.inl.inj q);rw[Ln h];exact(beq_eq_false_iff_ne.mpr e).symm
theorem HD(a b:Str):decide ((Sum.inr a:di)=Sum.inr b)=decide (a=b):=by
 by_cases e:a=b
 ·subst e;simp
 ·have h:¬(Sum.inr a:di)=Sum.inr b:=fun q=>e (Sum.inr.inj q);rw[Ln h,Ln e]
theorem GK(a:Int)(b:Str):decide ((Sum.inl a:di)=Sum.inr b)=false:=Ln (fun q=>nomatch q)
theorem Hd(a:Str)(b:Int):decide ((Sum.inr a:di)=Sum.inl b)=false:=Ln (fun q=>nomatch q)
def bN(prog:Program)(w:World):PySem.KeyKind prog w di where
 is:=mZ
 hash:=JJ w
 inj:=fun v a b ha hb=>by
  rcases cn ha with ⟨i,t,rfl,rfl⟩ | ⟨x,t,rfl,rfl⟩
  ·rcases cn hb with ⟨j,u,rfl,e⟩ | ⟨y,u,rfl,e⟩
   ·injection e with e1 _;rw[e1]
   ·exact nomatch e
  ·rcases cn hb with ⟨j,u,rfl,e⟩ | ⟨y,u,rfl,e⟩
   ·exact nomatch e
   ·injection e with e1 _;rw[e1]
 byValue:=fun k v h=>by
  rcases cn h with ⟨i,t,rfl,rfl⟩ | ⟨x,t,rfl,rfl⟩<;>rfl
 pyHash:=fun hv h=>by
  rcases cn hv with ⟨i,t,rfl,rfl⟩ | ⟨x,t,rfl,rfl⟩
  ·exact wpAny_pyHash_int h
  ·exact wpAny_pyHash_str h
 eqBool:=fun hu hv h=>by
  rcases cn hu with ⟨i,t,rfl,rfl⟩ | ⟨x,t,rfl,rfl⟩
  ·rcases cn hv with ⟨j,u,rfl,rfl⟩ | ⟨y,u,rfl,rfl⟩
   ·rw[Hq] at h;exact wpAny_eqBool_int h
   ·rw[GK] at h;exact SeqAt.EqAt.int_str i t y u _ _ _ _ h
  ·rcases cn hv with ⟨j,u,rfl,rfl⟩ | ⟨y,u,rfl,rfl⟩
   ·rw[Hd] at h;exact SeqAt.EqAt.str_int x t j u _ _ _ _ h
   ·rw[HD] at h;exact wpAny_eqBool_str h
 «strs»:=fun k x t v h=>by
  rcases cn h with ⟨i,u,rfl,e⟩ | ⟨y,u,rfl,e⟩
  ·exact nomatch e
  ·injection e with e1 _
   subst e1;cases v<;>rfl
theorem wQ(prog:Program)(w:World)(i:Int)(t:Tok):(bN prog w).is (.inl i) (.int i t)=true:=Bn i t
theorem wz(prog:Program)(w:World)(x:Str)(t:Tok):(bN prog w).is (.inr x) (.str x t)=true:=C5 x t
inductive V where
 | non | bl (b:Bool) | int (i:Int) | str (x:Str) | byt (b:Array UInt8) | flt (b:UInt64) | ref (a:Addr) | ty (n:String)
 deriving DecidableEq
def bg:V->Value->Prop
 | .non,u=>u=Value.none
 | .bl b,u=>u=Value.bool b
 | .int i,u=>∃t,u=Value.int i t
 | .str x,u=>∃t,u=Value.str x t
 | .byt b,u=>∃t,u=Value.bytes b t
 | .flt b,u=>∃t,u=Value.float b t
 | .ref a,u=>u=Value.ref a
 | .ty n,u=>u=Value.type n
abbrev b8:List V->List Value->Prop:=Paired bg
theorem b8.length{xs:List V}{us:List Value}(r:b8 xs us):xs.length=us.length:=Paired.length r
theorem b8.get:∀{xs:List V}{us:List Value}{i:Nat}{x:V},b8 xs us->xs[i]?=some x->∃u,us[i]?=some u∧bg x u
 | _,_,_,_,.nil,e=>by simp at e
 | _,_,0,_,.cons r _,e=>by simp at e;subst e;exact⟨_,rfl,r⟩
 | _,_,i+1,x,.cons _ t,e=>by
  obtain⟨u,h1,h2⟩:=b8.get (i:=i) (x:=x) t (by simpa using e)
  exact⟨u,by simpa using h1,h2⟩
theorem b8.set{x:V}{u:Value}(r:bg x u):∀{xs:List V}{us:List Value}(i:Nat),b8 xs us->b8 (xs.set i x) (us.set i u)
 | _,_,_,.nil=>.nil
 | _,_,0,.cons _ t=>.cons r t
 | _,_,i+1,.cons q t=>.cons q (b8.set r i t)
theorem b8.append:∀{xs ys:List V}{us ws:List Value},b8 xs us->b8 ys ws->b8 (xs++ys) (us++ws)
 | _,_,_,_,.nil,s=>s
 | _,_,_,_,.cons r t,s=>.cons r (b8.append t s)
theorem b8.take:∀{xs:List V}{us:List Value}(n:Nat),b8 xs us->b8 (xs.take n) (us.take n)
 | _,_,0,_=>.nil
 | _,_,_+1,.nil=>.nil
 | _,_,n+1,.cons r t=>.cons r (b8.take n t)
theorem b8.drop:∀{xs:List V}{us:List Value}(n:Nat),b8 xs us->b8 (xs.drop n) (us.drop n)
 | _,_,0,r=>r
 | _,_,_+1,.nil=>.nil
 | _,_,n+1,.cons _ t=>b8.drop n t
def gD:Option V->Option Value->Prop
 | some v,some u=>bg v u
 | none,none=>True
 | _,_=>False
def KV{κ:Type}:List (κ×V)->List (κ×Value)->Prop:=Paired fun(p:κ×V)(q:κ×Value)=>p.1=q.1∧bg p.2 q.2
def kV:di->V
 | .inl i=>.int i
 | .inr x=>.str x
inductive HO where
 | lst (xs:List V)
 | tup (xs:List V)
 | dK (kvs:List (di×V)) | dT (kvs:List (List di×V))
 | set (S:Int->Bool) (n:Nat)
 | ins (C dx:Addr) (fs:List (Str×V))
 | own (x:Addr)
 | xd (fs:List (Str×V))
 | met (f x:Addr)
 | rng (lo hi:Int)
 | frz (o:Obj) (u:HO)
 | tbl (ps:Array Value)
 | ext (φ:Heap->Prop)
abbrev Hp:=Addr->Option HO
def upd(H:Hp)(a:Addr)(o:HO):Hp:=fun b=>if b=a then some o else H b
theorem a9{H:Hp}{a:Addr}{o:HO}:upd H a o a=some o:=by unfold upd;rw[if_pos rfl]
theorem ak{H:Hp}{a b:Addr}{o:HO}(h:b≠a):upd H a o b=H b:=by unfold upd;rw[if_neg h]
theorem eG{H:Hp}{a:Addr}{o u:HO}:upd (upd H a o) a u=upd H a u:=by
 funext b;unfold upd;split<;>rfl
theorem cK{H:Hp}{a b:Addr}{o u:HO}(h:H a=some o)(h':H b=some u)(d:o≠u):a≠b:=by
 intro e;subst e;rw[h] at h';exact d (LS h')
theorem aq{H:Hp}{a b:Addr}{o:HO}(h:H a=some o)(h':H b=none):a≠b:=by
 intro e;subst e;rw[h] at h';cases h'
section
variable(P:Program)(w:World)
def bB(H:Hp)(h:Heap)(a:Addr):HO->Prop
 | .lst xs=>xs.length≤sizeLine∧∃(its:List Value)(n:Nat),b8 xs its∧h.get? a=some {cls:=.type "list",data:=.seq its.toArray n}
 | .tup xs=>xs.length≤sizeLine∧∃its:List Value,b8 xs its∧IsTup h a its.toArray
 | .dK kvs=>kvs.length≤sizeLine∧(a==sysModules)=false∧∃vs,KV kvs vs∧h.DictOf (bN P w) a vs
 | .dT kvs=>kvs.length≤sizeLine∧(a==sysModules)=false∧∃xs:List (List di×Addr×Value),
   Paired (fun(p:List di×V)(q:List di×Addr×Value)=>p.1=q.1∧H q.2.1=some (.tup (p.1.map kV))∧bg p.2 q.2.2) kvs xs ∧
   ∃o es ep,h.get? a=some o∧o.ExactDict∧o.data=.dict es ep∧es.toList=xs.map (entryOfKey (tupleKind (bN P w)))∧(xs.map (·.1)).Nodup
 | .set S n=>h.SetOf (intKind P w) a S n
 | .ins C dx fs=>H dx=some (.own a)∧fs.length≤1000∧dx≠a∧h.get? a=some (instObj C dx) ∧
   ∃mA,h.Ns1 dx mA∧(∀f,gD (fs.lookup f) (mA f))∧PySem.Within mA (fs.map (·.1))
 | .own _=>∃o,h.get? a=some o
 | .xd fs=>∃mA,h.Ns1 a mA∧∀f,gD (fs.lookup f) (mA f)
 | .rng lo hi=>∃t u v,h.get? a=some {cls:=.type "range",data:=.fields #[.int lo t,.int hi u,.int 1 v]}
 | .frz o u=>h.get? a=some o∧bB H h a u
 | .tbl ps=>h.get? a=some {cls:=.none,data:=.fields ps}
 | .met f x=>h.get? a=some (PySem.W.methodObj (.ref f) (.ref x))
 | .ext φ=>φ h∧(∃o,h.get? a=some o)∧∀h1 h2:Heap,φ h1->(∀o,h1.get? a=some o->h2.get? a=some o)->φ h2
def fN(H:Hp)(h:Heap):Prop:=∀a o,H a=some o->bB P w H h a o
end
section
variable{P:Program}{w:World}{H H':Hp}{h h':Heap}{a:Addr}{o:HO}
theorem bB.lt(x:bB P w H h a o):a < h.objs.size:=by
 cases o with
 | lst xs=>obtain⟨_,_,_,_,e⟩:=x;exact KC e
 | tup xs=>obtain⟨_,_,_,p⟩:=x;exact p.lt
 | dK kvs=>obtain⟨_,_,_,_,o,_,_,e,_⟩:=x;exact KC e
 | dT kvs=>obtain⟨_,_,_,_,o,_,_,e,_⟩:=x;exact KC e
 | set S n=>obtain⟨o,_,_,_,e,_⟩:=x;exact KC e
 | ins C dx fs=>obtain⟨_,_,_,e,_⟩:=x;exact KC e
 | own y=>obtain⟨_,e⟩:=x;exact KC e
 | xd fs=>obtain⟨_,⟨_,_,_,e,_⟩,_⟩:=x;exact KC e
 | rng lo hi=>obtain⟨_,_,_,e⟩:=x;exact KC e
 | frz ob u=>obtain⟨e,_⟩:=x;exact KC e
 | tbl ps=>exact KC (show h.get? a=some _ from x)
 | met f y=>exact KC (show h.get? a=some _ from x)
 | ext φ=>obtain⟨_,⟨_,e⟩,_⟩:=x;exact KC e
theorem Paired.mapP{α β:Type}{F G:α->β->Prop}:∀{l₁:List α}{l₂:List β},Paired F l₁ l₂->(∀a b,F a b->G a b)->Paired G l₁ l₂
 | _,_,.nil,_=>.nil
 | _,_,.cons r t,f=>.cons (f _ _ r) (Paired.mapP t f)
theorem bB.stay(x:bB P w H h a o)(k:∀b u,(b=a∨H b=some (.own a))->h.get? b=some u->h'.get? b=some u)
  (ho:∀b,H b=some (.own a)->H' b=some (.own a))(ht:∀b xs,H b=some (.tup xs)->H' b=some (.tup xs)):bB P w H' h' a o:=by
 induction o with
 | lst xs=>obtain⟨z,its,n,r,e⟩:=x;exact⟨z,its,n,r,k _ _ (.inl rfl) e⟩
 | tup xs=>obtain⟨z,its,r,ob,e,c⟩:=x;exact⟨z,its,r,ob,k _ _ (.inl rfl) e,c⟩
 | dK kvs=>obtain⟨z,y,vs,r,ob,es,ep,e,c⟩:=x;exact⟨z,y,vs,r,ob,es,ep,k _ _ (.inl rfl) e,c⟩
 | dT kvs =>
  obtain⟨z,y,xs,r,ob,es,ep,e,c⟩:=x;exact⟨z,y,xs,Paired.mapP r fun p q z=>⟨z.1,ht _ _ z.2.1,z.2.2⟩,ob,es,ep,k _ _ (.inl rfl) e,c⟩
 | set S n=>obtain⟨ob,es,ep,t,e,c⟩:=x;exact⟨ob,es,ep,t,k _ _ (.inl rfl) e,c⟩
 | ins C dx fs =>
  obtain⟨d,z,ne,e,mA,⟨od,es,ep,e2,c⟩,r⟩:=x;exact⟨ho _ d,z,ne,k _ _ (.inl rfl) e,mA,⟨od,es,ep,k _ _ (.inr d) e2,c⟩,r⟩
 | own y=>obtain⟨ob,e⟩:=x;exact⟨ob,k _ _ (.inl rfl) e⟩
 | xd fs=>obtain⟨mA,⟨od,es,ep,e,c⟩,r⟩:=x;exact⟨mA,⟨od,es,ep,k _ _ (.inl rfl) e,c⟩,r⟩
 | rng lo hi=>obtain⟨t,u,v,e⟩:=x;exact⟨t,u,v,k _ _ (.inl rfl) e⟩
 | frz ob u ih=>obtain⟨e,q⟩:=x;exact⟨k _ _ (.inl rfl) e,ih q⟩
 | tbl ps =>
  have e:h.get? a=some {cls:=.none,data:=.fields ps}:=x;show h'.get? a=some {cls:=.none,data:=.fields ps};exact k a _ (.inl rfl) e
 | met f y =>
  have e:h.get? a=some (PySem.W.methodObj (.ref f) (.ref y)):=x;show h'.get? a=some (PySem.W.methodObj (.ref f) (.ref y));exact k a _ (.inl rfl) e
 | ext φ=>obtain⟨p,⟨o,e⟩,st⟩:=x;exact⟨st _ _ p fun o q=>k _ _ (.inl rfl) q,⟨o,k _ _ (.inl rfl) e⟩,st⟩
theorem fN.lt(x:fN P w H h)(e:H a=some o):a < h.objs.size:=(x a o e).lt
theorem fN.fresh(x:fN P w H h)(e:h.objs.size≤a):H a=none:=by
 cases q:H a with
 | none=>rfl
 | some u=>exact absurd (KU (x.lt q) e) (Li _)
theorem fN.kept(x:fN P w H h)(k:∀b u,h.get? b=some u->h'.get? b=some u):fN P w H h':=fun a o e =>
 (x a o e).stay (fun b u _ q=>k b u q) (fun _ q=>q) fun _ _ q=>q
theorem fN.laid(x:fN P w H h)(k:∀b u,h.get? b=some u->h'.get? b=some u)(hp:h.objs.size≤a)(new:bB P w (upd H a o) h' a o):fN P w (upd H a o) h':=fun b u e=>by
 have hn:=x.fresh hp
 by_cases hb:b=a
 ·subst hb;rw[a9] at e;cases e;exact new
 ·rw[ak hb] at e;exact(x b u e).stay (fun c v _ q=>k c v q) (fun c q=>by rw[ak (aq q hn)];exact q) fun c xs q=>by rw[ak (aq q hn)];exact q
end
def Rd(H:Hp)(a:Addr)(u:HO):Prop:=H a=some u∨∃o,H a=some (.frz o u)
theorem Rd.ok{P:Program}{w:World}{H:Hp}{h:Heap}{a:Addr}{u:HO}(r:Rd H a u)(x:fN P w H h):bB P w H h a u:=by
 rcases r with r | ⟨o,r⟩
 ·exact x a u r
 ·obtain⟨_,q⟩:=x a _ r;exact q
def F9:Option HO->Prop
 | some (.lst _)=>True
 | some (.dK _)=>True
 | some (.dT _)=>True
 | some (.set _ _)=>True
 | some (.ins _ _ _)=>True
 | some (.ext _)=>True
 | _=>False
section
variable{P:Program}{w:World}{H:Hp}{h h':Heap}{x e:Addr}{o':HO}
theorem fN.write(ok:fN P w H h)(mu:F9 (H x))(he:e=x∨H e=some (.own x))(k:∀b u,b≠e->h.get? b=some u->h'.get? b=some u)(heo:∃u,h'.get? e=some u)
  (new:bB P w (upd H x o') h' x o'):fN P w (upd H x o') h':=fun b u q=>by
 have nown:∀c y,H c=some (.own y)->c≠x:=fun c y r z=>by subst z;rw[r] at mu;exact mu
 have ntup:∀c xs,H c=some (.tup xs)->c≠x:=fun c xs r z=>by subst z;rw[r] at mu;exact mu
 by_cases hb:b=x
 ·subst hb;rw[a9] at q;cases q;exact new
 ·rw[ak hb] at q
  by_cases hbe:b=e
  ·have q':H b=some (.own x):=by
    rcases he with z | z
    ·exact absurd (hbe.trans z) hb
    ·rw[hbe];exact z
   rw[q] at q';cases q';obtain⟨v,hv⟩:=heo;exact⟨v,by rw[hbe];exact hv⟩
  ·refine(ok b u q).stay (fun c v hc r=>k c v ?_ r) (fun c r=>by rw[ak (nown c b r)];exact r) fun c xs r=>by rw[ak (ntup c xs r)];exact r
   rcases hc with rfl | hc
   ·exact hbe
   ·rintro rfl;rcases he with z | z
    ·exact nown c b hc z
    ·rw[hc] at z;cases z;exact hb rfl
end
structure Un(fs ex:List Addr)(H H':Hp)(h h':Heap):Prop where
 keep:∀b o,h.get? b=some o->H b=none->b∉fs->b∉ex->h'.get? b=some o
 slot:∀b o,h.get? b=some o->H b=none->b∈fs->b∉ex->∃sl,h'.get? b=some {o with slots:=sl}
 free:∀b o,h.get? b=some o->H b=none->b∉ex->H' b=none
 there:∀b o,h.get? b=some o->b∉ex->∃o',h'.get? b=some o'
 tups:∀b xs,H b=some (.tup xs)->H' b=some (.tup xs)
 frzs:∀b o u,H b=some (.frz o u)->H' b=some (.frz o u)
 tbls:∀b ps,H b=some (.tbl ps)->∃more,H' b=some (.tbl (ps++more))
section
variable{fs fs' ex ex':List Addr}{H H1 H2:Hp}{h h1 h2 h':Heap}{a x e:Addr}{o:HO}
theorem Un.any(u:Un fs ex H H1 h h1){b:Addr}{ob:Obj}(q:h.get? b=some ob)(n:H b=none)(hx:b∉ex):∃sl,h1.get? b=some {ob with slots:=sl}:=by
 by_cases hb:b∈fs
 ·exact u.slot b ob q n hb hx
 ·exact⟨ob.slots,u.keep b ob q n hb hx⟩
theorem Un.kept(k:∀b u,h.get? b=some u->h'.get? b=some u):Un fs ex H H h h' :=
 ⟨fun b ob q _ _ _=>k b ob q,fun b ob q _ _ _=>⟨ob.slots,k b ob q⟩,fun _ _ _ n _=>n,fun b ob q _=>⟨ob,k b ob q⟩,fun _ _ q=>q,fun _ _ _ q=>q,fun _ ps q=>⟨#[],by rw[q];simp⟩⟩
theorem Un.refl:Un fs ex H H h h:=Un.kept fun _ _ q=>q
theorem Un.laid(k:∀b u,h.get? b=some u->h'.get? b=some u)(hp:h.objs.size≤a)(hn:H a=none):Un fs ex H (upd H a o) h h' where
 keep:=fun b u q _ _ _=>k b u q
 slot:=fun b u q _ _ _=>⟨u.slots,k b u q⟩
 free:=fun b u q n _=>by rw[ak (Lj (KU (KC q) hp))];exact n
 there:=fun b u q _=>⟨u,k b u q⟩
 tups:=fun b xs q=>by rw[ak (aq q hn)];exact q
 frzs:=fun b u xs q=>by rw[ak (aq q hn)];exact q
 tbls:=fun b ps q=>⟨#[],by rw[ak (aq q hn),q];simp⟩
theorem Un.write(mu:F9 (H x))(he:e=x∨H e=some (.own x))(k:∀b u,b≠e->h.get? b=some u->h'.get? b=some u)(heo:∃u,h'.get? e=some u):Un fs ex H (upd H x o) h h':=by
 have hx:∀b,H b=none->b≠x:=fun b n z=>by subst z;rw[n] at mu;exact mu
 have hb:∀b,H b=none->b≠e:=fun b n z=>by
  subst z;rcases he with r | r
  ·exact hx b n r
  ·rw[n] at r;cases r
 have hm:∀b u,H b=some u->¬F9 (some u)->b≠x:=fun b u q nm z=>by subst z;rw[q] at mu;exact nm mu
 refine⟨fun b u q n _ _=>k b u (hb b n) q,fun b u q n _ _=>⟨u.slots,k b u (hb b n) q⟩,fun b u q n _=>by rw[ak (hx b n)];exact n,fun b u q _=>?_,
  fun b xs q=>by rw[ak (hm b _ q fun z=>z)];exact q,fun b u xs q=>by rw[ak (hm b _ q fun z=>z)];exact q,fun b ps q=>⟨#[],by rw[ak (hm b _ q fun z=>z),q];simp⟩⟩
 by_cases hbe:b=e
 ·subst hbe;exact heo
 ·exact⟨u,k b u hbe q⟩
end
def Jd(h:Heap)(H:Hp):List Addr:=(List.range h.objs.size).filter fun a=>(H a).isSome
def uN(h:Heap)(H:Hp):Heap:=PySem.W.hideAll h (Jd h H)
theorem BD(h:Heap)(H:Hp):(uN h H).objs.size=h.objs.size:=PySem.W.hideAll_size _ _
theorem DZ{h:Heap}{H:Hp}{b:Addr}{o:Obj}(e:h.get? b=some o)(n:H b=none):(uN h H).get? b=some o :=
 PySem.W.hideAll_get _ e fun hm=>by
  have q:(H b).isSome=true:=(Lr.mp hm).2;rw[n] at q;simp at q
theorem FG{h:Heap}{H:Hp}{b:Addr}{o:Obj}(e:(uN h H).get? b=some o):h.get? b=some o∧H b=none:=by
 have e':h.get? b=some o:=PySem.W.of_hideAll (Jd h H) e;refine⟨e',?_⟩;cases q:H b with
 | none=>rfl
 | some x =>
  have hm:b∈Jd h H:=Lr.mpr ⟨List.mem_range.mpr (KC e'),by simp[q]⟩
  have z:(uN h H).get? b=none:=PySem.W.hideAll_none (Jd h H) hm;rw[z] at e;cases e
def Fs(g h:Heap)(L:Addr):List (Addr×Obj):=(List.range h.objs.size).filterMap fun a=>if a=L∨(g.get? a).isSome=true then none else(h.get? a).map fun o=>(a,o)
def gk(g h:Heap)(L d:Addr):List (Addr×Obj):=(Fs g h L).filter fun p=>decide (p.1≠d)
structure Jh(K:Frag)(mg:Str->Option Value)(base:Heap):Prop where
 kin:K.In base
 glob:base.Ns mainGlobals mg
 blt:∃mb,base.Ns builtinsNs mb∧∀x:Str,x≠"__name__"->mb x=bootBuiltins x
 nolimit:base.NoLimit
structure Cx where
 prog:Program
 w:World
 K:Frag
 mg:Str->Option Value
 base:Heap
 A:Around
 N:List Str
 s_0:Shared
 H_0:Hp
 env:Env
 outer:List Env
 stack:List Env
 ex:List Addr
 fn:Str->Bool
 calm:Bool
 pn:List (Addr×Obj)
 xe:Value->Shared->Prop
def wj(l:List Env):List Addr:=l.filterMap (·.frame)
abbrev Cx.fs(X:Cx):List Addr:=wj X.outer
def Hu(sc:Scope)(x:Str):Prop:=sc.names.lookup x=some .local∨sc.names.lookup x=some .cell∨sc.names.lookup x=some .free
def Iy(sc:Scope)(x:Str):Prop:=sc.names.lookup x=some .local∨sc.names.lookup x=some .cell
def Jv(env:Env)(h:Heap)(m:Str->Option Value)(x:Str)(u:Value):Prop :=
 (env.kindOf x=some .local∧m x=some u)∨((env.kindOf x=some .cell∨env.kindOf x=some .free)∧∃c,env.cells.lookup x=some c∧h.IsCell c (some u))
structure Cx.Ok(X:Cx):Prop where
 mod:Jh X.K X.mg X.base
 kind:X.env.scope.kind=.function
 glob:X.env.globals=mainGlobals
 blt:X.env.builtins=builtinsNs
 above:X.s_0.heap.objs.size≤X.env.locals
 inj:∀x y c,X.env.cells.lookup x=some c->X.env.cells.lookup y=some c->x=y
 has:∀x,(X.env.kindOf x=some .cell∨X.env.kindOf x=some .free)->∃c,X.env.cells.lookup x=some c
 cab:∀x c,X.fn x=true->X.env.cells.lookup x=some c->X.s_0.heap.objs.size≤c
 hd:X.calm=true->X.A.handled=none
 frames:X.A.frames=some X.stack
 stk:X.stack=X.outer∨(X.stack=X.env::X.outer∧X.env.frame=some X.env.locals)
 exf:∀b∈X.ex,b≠X.env.locals∧∀x c,X.env.cells.lookup x=some c->c≠b
 bs:∀b o,X.base.get? b=some o->X.s_0.heap.get? b=some o∧X.H_0 b=none
 bsz:X.base.objs.size≤X.s_0.heap.objs.size
 noex:∀b o,X.base.get? b=some o->b∉X.ex
 exfs:∀b∈X.ex,b∉X.fs
 funs:X.s_0.heap.FunFrames X.base X.outer
 frf:∀b∈X.fs,X.H_0 b=none
structure aM(X:Cx)(pins:List (Addr×Obj))(σ:List (Option V))(H:Hp)(s:Shared):Prop where
 ok:X.Ok
 os:s.os=X.s_0.os
 bare:AllBare s.gens
 base:Un X.fs X.ex X.H_0 H X.s_0.heap s.heap
 loc:∃m,s.heap.Ns X.env.locals m∧∀(i:Nat)(x:Str)(v:V),X.N[i]?=some x->σ[i]?=some (some v)->Hu X.env.scope x->∃u,bg v u∧Jv X.env s.heap m x u
 cell:∀x c,X.env.cells.lookup x=some c->∃v,s.heap.IsCell c v
 free:H X.env.locals=none
 freeC:∀x c,X.env.cells.lookup x=some c->H c=none
 pin:∀p∈X.pn++pins,s.heap.get? p.1=some p.2∧H p.1=none∧p.1≠X.env.locals∧p.1∉X.fs∧∀v,p.2.data≠.cell v
 hok:fN X.prog X.w H s.heap
 len:σ.length=X.N.length
section
variable{X:Cx}{pins:List (Addr×Obj)}{σ:List (Option V)}{H H':Hp}{s:Shared}{h':Heap}
theorem Cx.Ok.nofr(ok:X.Ok){b:Addr}{o:Obj}(e:X.base.get? b=some o):b∉X.fs:=fun hb=>by
 have:=(ok.funs.mem hb).1;rw[e] at this;cases this
theorem aM.bs(I:aM X pins σ H s):∀b o,X.base.get? b=some o->s.heap.get? b=some o∧H b=none:=fun b o e =>
 ⟨I.base.keep b o (I.ok.bs b o e).1 (I.ok.bs b o e).2 (I.ok.nofr e) (I.ok.noex b o e),I.base.free b o (I.ok.bs b o e).1 (I.ok.bs b o e).2 (I.ok.noex b o e)⟩
theorem aM.bk(I:aM X pins σ H s):∀b o,X.base.get? b=some o->s.heap.get? b=some o:=fun b o e=>(I.bs b o e).1
theorem aM.mod(I:aM X pins σ H s):Jh X.K X.mg X.base:=I.ok.mod
theorem aM.kIn(I:aM X pins σ H s):X.K.In s.heap:=I.ok.mod.kin.keeps I.bk
theorem aM.lt(I:aM X pins σ H s):X.env.locals < s.heap.objs.size:=let ⟨_,hn,_⟩:=I.loc;hn.lt
theorem aM.sz(I:aM X pins σ H s):X.s_0.heap.objs.size≤s.heap.objs.size:=Lh I.ok.above (LR I.lt)
theorem aM.nofs(I:aM X pins σ H s){a:Addr}(h:s.heap.objs.size≤a):a∉X.fs:=fun hb=>by
 obtain⟨_,o,ho,_⟩:=I.ok.funs.mem hb;exact absurd (KU (KC ho) (Lh I.sz h)) (Li _)
theorem aM.cne(I:aM X pins σ H s):∀x c,X.env.cells.lookup x=some c->c≠X.env.locals:=fun x c e z=>by
 obtain⟨v,o,ho,hd⟩:=I.cell x c e;obtain⟨m,⟨o',es,ep,ho',hd',_⟩,_⟩:=I.loc;rw[z,ho'] at ho;cases ho;rw[hd'] at hd;cases hd
theorem aM.funs(I:aM X pins σ H s):s.heap.FunFrames X.base X.outer:=by
 have all:∀(l:List Env),(∀b∈wj l,b∈X.fs)->X.s_0.heap.FunFrames X.base l->s.heap.FunFrames X.base l:=by
  intro l
  induction l with
  | nil=>intro _ _;trivial
  | cons env r ih =>
   intro hs hl;obtain⟨hk,⟨L,o,hf,hn,ho,hd⟩,hr⟩:=hl;have hL:L∈X.fs:=hs L (by unfold wj;rw[List.filterMap_cons,hf];exact KJ)
   obtain⟨sl,e⟩:=I.base.slot L o ho (I.ok.frf L hL) hL fun z=>I.ok.exfs L z hL;exact⟨hk,⟨L,_,hf,hn,e,hd⟩,ih (fun b hb=>hs b (by unfold wj;rw[List.filterMap_cons,hf];exact KH _ hb)) hr⟩
 exact all X.outer (fun _ hb=>hb) I.ok.funs
theorem aM.stack(I:aM X pins σ H s):s.heap.FunFrames X.base X.stack:=by
 rcases I.ok.stk with e | ⟨e,hf⟩
 ·rw[e];exact I.funs
 ·rw[e];obtain⟨m,hn,_⟩:=I.loc;refine .cons (by rw[I.ok.kind];decide) hf hn ?_ I.funs
  exact LG (Lh I.ok.bsz I.ok.above)
theorem aM.stkSub(I:aM X pins σ H s):∀b∈wj X.stack,b∈X.env.locals::X.fs:=fun b hb=>by
 rcases I.ok.stk with e | ⟨e,hf⟩
 ·rw[e] at hb;exact KH _ hb
 ·rw[e] at hb;unfold wj at hb;rw[List.filterMap_cons,hf] at hb;exact hb
theorem aM.stkFree(I:aM X pins σ H s):∀b∈wj X.stack,H b=none:=fun b hb=>by
 rcases List.mem_cons.mp (I.stkSub b hb) with e | hb
 ·rw[e];exact I.free
 ·obtain⟨_,o,ho,_⟩:=I.ok.funs.mem hb;exact I.base.free b o ho (I.ok.frf b hb) fun z=>I.ok.exfs b z hb
theorem aM.step{g':Array GenState}{t':Nat}{d':Drawn}{ch:List Addr}(I:aM X pins σ H s)
  (hch:∀b∈ch,(b∈X.ex∨X.s_0.heap.objs.size≤b)∧b≠X.env.locals∧(∀x c,X.env.cells.lookup x=some c->c≠b)∧∀p∈X.pn++pins,p.1≠b)
  (keep:∀b o,b≠X.env.locals->b∉X.fs->b∉ch->s.heap.get? b=some o->H b=none->h'.get? b=some o)
  (slot:∀b o,b≠X.env.locals->b∈X.fs->b∉ch->s.heap.get? b=some o->H b=none->∃sl,h'.get? b=some {o with slots:=sl})(free:∀b o,b∉ch->s.heap.get? b=some o->H b=none->H' b=none)
  (there:∀b o,b∉ch->s.heap.get? b=some o->∃o',h'.get? b=some o')
  (tups:∀b xs,H b=some (.tup xs)->H' b=some (.tup xs))(frzs:∀b o u,H b=some (.frz o u)->H' b=some (.frz o u))(tbls:∀b ps,H b=some (.tbl ps)->∃more,H' b=some (.tbl (ps++more)))
  (ns:∀m,s.heap.Ns X.env.locals m->h'.Ns X.env.locals m)(hok:fN X.prog X.w H' h')(hg:AllBare g') :
  aM X pins σ H' {s with heap:=h',gens:=g',drawn:=d',toks:=t'}:=by
 have neL:∀b o,X.s_0.heap.get? b=some o->b≠X.env.locals:=fun b o e=>Lj (KU (KC e) I.ok.above)
 have neC:∀b o,X.s_0.heap.get? b=some o->b∉X.ex->b∉ch:=fun b o e hx hb=>by
  rcases(hch b hb).1 with z | z
  ·exact hx z
  ·exact absurd (KU (KC e) z) (Li _)
 have cellK:∀x c,X.env.cells.lookup x=some c->∀v,s.heap.IsCell c v->h'.IsCell c v:=fun x c e v ⟨o,ho,hd⟩=>by
  have nch:c∉ch:=fun z=>(hch c z).2.2.1 x c e rfl
  by_cases hc:c∈X.fs
  ·obtain⟨sl,q⟩:=slot c o (I.cne x c e) hc nch ho (I.freeC x c e);exact⟨_,q,hd⟩
  ·exact⟨o,keep c o (I.cne x c e) hc nch ho (I.freeC x c e),hd⟩
 refine⟨I.ok,I.os,hg,⟨fun b o e n hb hx=>?_,fun b o e n hb hx=>?_,fun b o e n hx=>?_,fun b o e hx=>?_,fun b xs e=>tups b xs (I.base.tups b xs e),fun b o xs e=>frzs b o xs (I.base.frzs b o xs e),fun b ps e=>?_⟩,?_,fun x c e=>?_,?_,fun x c e=>?_,fun p hp=>?_,hok,I.len⟩
 ·exact keep b o (neL b o e) hb (neC b o e hx) (I.base.keep b o e n hb hx) (I.base.free b o e n hx)
 ·obtain⟨sl,e1⟩:=I.base.slot b o e n hb hx;obtain⟨sl',e2⟩:=slot b _ (neL b o e) hb (neC b o e hx) e1 (I.base.free b o e n hx);exact⟨sl',e2⟩
 ·obtain⟨o',e1⟩:=I.base.there b o e hx;exact free b o' (neC b o e hx) e1 (I.base.free b o e n hx)
 ·obtain⟨o',e1⟩:=I.base.there b o e hx;exact there b o' (neC b o e hx) e1
 ·obtain⟨m1,e1⟩:=I.base.tbls b ps e;obtain⟨m2,e2⟩:=tbls b _ e1;exact⟨m1++m2,by rw[e2,Array.append_assoc]⟩
 ·obtain⟨m,hn,hl⟩:=I.loc;refine⟨m,ns m hn,fun i x v e1 e2 e3=>?_⟩;obtain⟨u,r,l⟩:=hl i x v e1 e2 e3;refine⟨u,r,?_⟩;rcases l with l | ⟨k,c,e,z⟩
  ·exact .inl l
  ·exact .inr ⟨k,c,e,cellK x c e _ z⟩
 ·obtain⟨v,z⟩:=I.cell x c e;exact⟨v,cellK x c e v z⟩
 ·obtain⟨m,⟨o,_,_,ho,_⟩,_⟩:=I.loc;exact free _ o (fun z=>(hch _ z).2.1 rfl) ho I.free
 ·obtain⟨v,o,ho,hd⟩:=I.cell x c e;exact free c o (fun z=>(hch c z).2.2.1 x c e rfl) ho (I.freeC x c e)
 ·obtain⟨e,n,ne,nf,d⟩:=I.pin p hp;have nch:p.1∉ch:=fun z=>(hch p.1 z).2.2.2 p hp rfl;exact⟨keep p.1 p.2 ne nf nch e n,free p.1 p.2 nch e n,ne,nf,d⟩
theorem aM.un{t':Nat}(I:aM X pins σ H s)(u:Un X.fs [] H H' s.heap h')(hok:fN X.prog X.w H' h'):aM X pins σ H' {s with heap:=h',toks:=t'}:=by
 obtain⟨m,⟨o,es,ep,ho,r⟩,_⟩:=id I.loc;obtain⟨sl,hL⟩:=u.any ho I.free (by simp)
 exact I.step (g':=s.gens) (d':=s.drawn) (ch:=[]) (fun _ z=>nomatch z) (fun b o _ hb _ e n=>u.keep b o e n hb (by simp)) (fun b o _ hb _ e n=>u.slot b o e n hb (by simp)) (fun b o _ e n=>u.free b o e n (by simp)) (fun b o _ e=>u.there b o e (by simp)) u.tups u.frzs u.tbls (fun m' hm=>by
  obtain⟨o',es',ep',ho',r'⟩:=hm;rw[ho] at ho';cases ho';exact⟨_,es',ep',hL,r'⟩) hok I.bare
theorem aM.call{g':Array GenState}{t':Nat}{d':Drawn}{ch:List Addr}(I:aM X pins σ H s)(u:Un (wj X.stack) ch H H' s.heap h')(hok:fN X.prog X.w H' h')(hg:AllBare g')
  (hch:∀b∈ch,(b∈X.ex∨X.s_0.heap.objs.size≤b)∧b≠X.env.locals∧(∀x c,X.env.cells.lookup x=some c->c≠b)∧∀p∈X.pn++pins,p.1≠b) :
  aM X pins σ H' {s with heap:=h',gens:=g',drawn:=d',toks:=t'}:=by
 obtain⟨m,⟨o,es,ep,ho,r⟩,_⟩:=id I.loc;obtain⟨sl,hL⟩:=u.any ho I.free fun z=>(hch _ z).2.1 rfl
 exact I.step (ch:=ch) hch (fun b o hL hb hc e n=>u.keep b o e n (fun z=>(List.mem_cons.mp (I.stkSub b z)).elim hL hb) hc) (fun b o _ _ hc e n=>u.any e n hc) (fun b o hc e n=>u.free b o e n hc) (fun b o hc e=>u.there b o e hc) u.tups u.frzs u.tbls (fun m' hm=>by
  obtain⟨o',es',ep',ho',r'⟩:=hm;rw[ho] at ho';cases ho';exact⟨_,es',ep',hL,r'⟩) hok hg
theorem aM.turned{t':Nat}{it:Addr}(I:aM X pins σ H s)(k:∀b o,b≠it->s.heap.get? b=some o->h'.get? b=some o)(hn:H it=none)(hL:it≠X.env.locals)
  (h1:it∈X.ex∨X.s_0.heap.objs.size≤it)(h2:∀x c,X.env.cells.lookup x=some c->c≠it)(h3:∀p∈X.pn++pins,p.1≠it):aM X pins σ H {s with heap:=h',toks:=t'}:=by
 have nit:∀b u,H b=some u->b≠it:=fun b u e z=>by rw[z,hn] at e;cases e
 refine I.step (g':=s.gens) (d':=s.drawn) (ch:=[it]) (fun b hb=>?_) (fun b o _ _ hc e _=>k b o (fun z=>hc (by simp[z])) e) (fun b o _ _ hc e _=>⟨o.slots,k b o (fun z=>hc (by simp[z])) e⟩) (fun _ _ _ _ n=>n)
  (fun b o hc e=>⟨o,k b o (fun z=>hc (by simp[z])) e⟩) (fun _ _ e=>e) (fun _ _ _ e=>e) (fun b ps e=>⟨#[],by rw[e];simp⟩) (fun m hm=>?_) (fun b u e=>?_) I.bare
 ·have e:b=it:=by simpa using hb
  subst e;exact⟨h1,hL,h2,h3⟩
 ·obtain⟨o,es,ep,ho,r⟩:=hm;exact⟨o,es,ep,k _ o (Ne.symm hL) ho,r⟩
 ·refine(I.hok b u e).stay (fun c v hc q=>k c v ?_ q) (fun _ q=>q) fun _ _ q=>q;rcases hc with z | z
  ·rw[z];exact nit b u e
  ·exact nit c _ z
theorem aM.tok(I:aM X pins σ H s)(t:Nat):aM X pins σ H {s with toks:=t}:=I.un (h':=s.heap) (t':=t) Un.refl I.hok
theorem aM.kept{t':Nat}(I:aM X pins σ H s)(k:∀b u,s.heap.get? b=some u->h'.get? b=some u):aM X pins σ H {s with heap:=h',toks:=t'}:=I.un (Un.kept k) (I.hok.kept k)
theorem aM.laid{a:Addr}{o:HO}{t':Nat}(I:aM X pins σ H s)(k:∀b u,s.heap.get? b=some u->h'.get? b=some u)(hp:s.heap.objs.size≤a)(new:bB X.prog X.w (upd H a o) h' a o) :
  aM X pins σ (upd H a o) {s with heap:=h',toks:=t'}:=I.un (Un.laid k hp (I.hok.fresh hp)) (I.hok.laid k hp new)
theorem aM.write{x e:Addr}{o:HO}{t':Nat}(I:aM X pins σ H s)(mu:F9 (H x))(he:e=x∨H e=some (.own x))(k:∀b u,b≠e->s.heap.get? b=some u->h'.get? b=some u)(heo:∃u,h'.get? e=some u)
  (new:bB X.prog X.w (upd H x o) h' x o):aM X pins σ (upd H x o) {s with heap:=h',toks:=t'}:=I.un (Un.write mu he k heo) (I.hok.write mu he k heo new)
theorem aM.weak{σ':List (Option V)}(I:aM X pins σ H s)(hl:σ'.length=σ.length)(w:∀(i:Nat) v,σ'[i]?=some (some v)->σ[i]?=some (some v)):aM X pins σ' H s :=
 ⟨I.ok,I.os,I.bare,I.base,let ⟨m,hn,hl'⟩:=I.loc;⟨m,hn,fun i x v e1 e2 e3=>hl' i x v e1 (w i v e2) e3⟩,I.cell,I.free,I.freeC,I.pin,I.hok,hl.trans I.len⟩
theorem aM.pins_of{pins':List (Addr×Obj)}(I:aM X pins σ H s)(h:∀p∈pins',s.heap.get? p.1=some p.2∧H p.1=none∧p.1≠X.env.locals∧p.1∉X.fs∧∀v,p.2.data≠.cell v):aM X pins' σ H s :=
 ⟨I.ok,I.os,I.bare,I.base,I.loc,I.cell,I.free,I.freeC,fun p hp=>(Lb.mp hp).elim (fun z=>I.pin p (List.mem_append_left _ z)) (h p),I.hok,I.len⟩
theorem mB{N:List Str}(hN:N.Nodup){i j:Nat}{x:Str}(a:N[i]?=some x)(b:N[j]?=some x):i=j:=by
 obtain⟨h1,e1⟩:=KQ.mp a;obtain⟨h2,e2⟩:=KQ.mp b;exact(List.getElem_inj hN).mp (e1.trans e2.symm)
theorem ue{M:Model}{A:Around}{E:Value->Shared->Prop}{i:Nat}{x:Str}{v:V}{u:Value}{Q:Unit->Shared->Prop}(I:aM X pins σ H s)(hN:X.N.Nodup)(hi:X.N[i]?=some x)(hx:Iy X.env.scope x)(r:bg v u)
  (h:∀s',aM X pins (σ.set i (some v)) H s'->(∃a,Heap.SameBut a s.heap s'.heap∧(a=X.env.locals∨X.env.cells.lookup x=some a))->Q () s')(hf:X.fn x=true∨X.env.scope.names.lookup x=some .local:=by first | exact .inl rfl | exact .inr rfl | assumption):wpAny M A (storeName X.env x u) Q E s:=by
 obtain⟨m,hn,hl⟩:=id I.loc;have hcls:(X.env.scope.kind==.class||(X.env.scope.kind==.module&&X.env.locals != X.env.globals))=false:=by rw[I.ok.kind];rfl
 have hiσ:i < σ.length:=by rw[I.len];exact(KQ.mp hi).1
 have cne:=I.cne
 have tracked:∀{a:Addr}{h':Heap},(∃o,s.heap.get? a=some o∧H a=none)->Heap.SameBut a s.heap h'->fN X.prog X.w H h':=fun{a h'} ha hs b ob e=>by
  obtain⟨_,_,hfree⟩:=ha;refine(I.hok b ob e).stay (fun c w' hc q=>(hs.2 c ?_).trans q) (fun _ q=>q) fun _ _ q=>q;rintro rfl;rcases hc with rfl | hc
  ·rw[hfree] at e;cases e
  ·rw[hfree] at hc;cases hc
 rcases hx with hk | hk
 ·refine wpAny_storeName_local hk hn (fun h' hn' hs=>?_) hcls;obtain⟨oL,_,_,hoL,_⟩:=id hn;refine h _ ⟨I.ok,I.os,I.bare,⟨fun b o e n hb hx=>?_,fun b o e n hb hx=>?_,I.base.free,fun b o e hx=>?_,I.base.tups,I.base.frzs,I.base.tbls⟩,⟨_,hn',fun j y v' e1 e2 e3=>?_⟩,fun y c e=>?_,I.free,I.freeC,fun p hp=>?_,tracked ⟨oL,hoL,I.free⟩ hs,by simpa using I.len⟩ ⟨_,hs,.inl rfl⟩
  ·exact(hs.2 b (Lj (KU (KC e) I.ok.above))).trans (I.base.keep b o e n hb hx)
  ·obtain⟨sl,e1⟩:=I.base.slot b o e n hb hx;exact⟨sl,(hs.2 b (Lj (KU (KC e) I.ok.above))).trans e1⟩
  ·obtain⟨o',e1⟩:=I.base.there b o e hx;exact⟨o',(hs.2 b (Lj (KU (KC e) I.ok.above))).trans e1⟩
  ·by_cases hj:j=i
   ·subst hj;rw[hi] at e1;cases e1;rw[LC hiσ] at e2;cases e2;exact⟨u,r,.inl ⟨hk,by simp⟩⟩
   ·rw[LD (Ne.symm hj)] at e2;obtain⟨u',r',q⟩:=hl j y v' e1 e2 e3;refine⟨u',r',?_⟩;rcases q with ⟨k,e⟩ | ⟨k,c,e,z⟩
    ·refine .inl ⟨k,?_⟩;have:y≠x:=fun e=>hj (mB hN e1 (e▸hi));simp[this,e]
    ·exact .inr ⟨k,c,e,z.sameBut hs (cne y c e)⟩
  ·obtain⟨w',z⟩:=I.cell y c e;exact⟨w',z.sameBut hs (cne y c e)⟩
  ·obtain⟨e,n,ne,nf,d⟩:=I.pin p hp;exact⟨(hs.2 p.1 ne).trans e,n,ne,nf,d⟩
 ·have hfn:X.fn x=true:=by
   rcases hf with z | z
   ·exact z
   ·rw[z] at hk;cases hk
  obtain⟨c,hc⟩:=I.ok.has x (.inl hk);obtain⟨w',z⟩:=I.cell x c hc;refine wpAny_storeName_cell I.ok.kind hk hc z (fun h' hc' hs=>?_);obtain⟨oc,hoc,hocd⟩:=id z;refine h {s with heap:=h'} ⟨I.ok,I.os,I.bare,⟨fun b o e n hb hx=>?_,fun b o e n hb hx=>?_,I.base.free,fun b o e hx=>?_,I.base.tups,I.base.frzs,I.base.tbls⟩,⟨m,hn.sameBut hs (Ne.symm (cne x c hc)),fun j y v' e1 e2 e3=>?_⟩,fun y c' e=>?_,I.free,I.freeC,fun p hp=>?_,tracked ⟨oc,hoc,I.freeC x c hc⟩ hs,by simpa using I.len⟩ ⟨c,hs,.inr hc⟩
  ·exact(hs.2 b (Lj (KU (KC e) (I.ok.cab x c hfn hc)))).trans (I.base.keep b o e n hb hx)
  ·obtain⟨sl,e1⟩:=I.base.slot b o e n hb hx;exact⟨sl,(hs.2 b (Lj (KU (KC e) (I.ok.cab x c hfn hc)))).trans e1⟩
  ·obtain⟨o',e1⟩:=I.base.there b o e hx;exact⟨o',(hs.2 b (Lj (KU (KC e) (I.ok.cab x c hfn hc)))).trans e1⟩
  ·by_cases hj:j=i
   ·subst hj;rw[hi] at e1;cases e1;rw[LC hiσ] at e2;cases e2;exact⟨u,r,.inr ⟨.inl hk,c,hc,hc'⟩⟩
   ·rw[LD (Ne.symm hj)] at e2;obtain⟨u',r',q⟩:=hl j y v' e1 e2 e3;refine⟨u',r',?_⟩;rcases q with q | ⟨k,c',e,z'⟩
    ·exact .inl q
    ·refine .inr ⟨k,c',e,z'.sameBut hs ?_⟩;rintro rfl;exact hj (mB hN e1 (I.ok.inj _ _ _ e hc▸hi))
  ·by_cases hcc:c'=c
   ·subst hcc;exact⟨_,hc'⟩
   ·obtain⟨w2,z2⟩:=I.cell y c' e;exact⟨w2,z2.sameBut hs hcc⟩
  ·obtain⟨e,n,ne,nf,d⟩:=I.pin p hp;refine⟨(hs.2 p.1 ?_).trans e,n,ne,nf,d⟩;intro q;rw[q,hoc] at e;have q':oc=p.2:=LS e;exact d w' (by rw[←q'];exact hocd)
theorem nv{M:Model}{A:Around}{E:Value->Shared->Prop}{i:Nat}{x:Str}{v:V}{u:Value}{Q:Unit->Shared->Prop}(I:aM X pins σ H s)(hN:X.N.Nodup)(hi:X.N[i]?=some x)(hx:Iy X.env.scope x)(r:bg v u)
  (h:∀s',aM X pins (σ.set i (some v)) H s'->Q () s')(hf:X.fn x=true∨X.env.scope.names.lookup x=some .local:=by first | exact .inl rfl | exact .inr rfl | assumption):wpAny M A (storeName X.env x u) Q E s :=
 ue I hN hi hx r (fun s' I' _=>h s' I') hf
theorem aM.call'{s':Shared}{ch:List Addr}(I:aM X pins σ H s)(ho:s'.os=s.os)(u:Un (wj X.stack) ch H H' s.heap s'.heap)(hok:fN X.prog X.w H' s'.heap)(hg:AllBare s'.gens)
  (hch:∀b∈ch,(b∈X.ex∨X.s_0.heap.objs.size≤b)∧b≠X.env.locals∧(∀x c,X.env.cells.lookup x=some c->c≠b)∧∀p∈X.pn++pins,p.1≠b):aM X pins σ H' s':=by
 obtain⟨h',g',d',t',o'⟩:=s';have e:o'=s.os:=ho;subst e;exact I.call (g':=g') (t':=t') (d':=d') u hok hg hch
end
abbrev XK:=Value->Option Addr->Hp->Prop
abbrev St:=List (Option V)
abbrev VK:=V->Hp->Prop
abbrev TE:=St->Hp->VK->Prop
abbrev TT:=St->Hp->(Bool->Hp->Prop)->Prop
abbrev TA:=St->Hp->(List V->Hp->Prop)->Prop
structure m6 where
 nx:St->Hp->Prop
 rt:VK
 bk:St->Hp->Prop:=fun _ _=>False
 ct:St->Hp->Prop:=fun _ _=>False
abbrev TS:=m6->St->Hp->Prop
inductive EP(X:Cx)(pins:List (Addr×Obj))(σ:St)(Q:VK)(u:Value)(s':Shared):Prop
 | mk (v H':_):aM X pins σ H' s'->bg v u->Q v H'->EP X pins σ Q u s'
def TP(X:Cx)(pins:List (Addr×Obj))(σ:St)(Q:Bool->Hp->Prop)(b:Bool)(s':Shared):Prop:=∃H',aM X pins σ H' s'∧Q b H'
inductive AP(X:Cx)(pins:List (Addr×Obj))(σ:St)(Q:List V->Hp->Prop)(us:List Value)(s':Shared):Prop
 | mk (vs H':_):aM X pins σ H' s'->b8 vs us->Q vs H'->AP X pins σ Q us s'
def SP(X:Cx)(pins:List (Addr×Obj))(D:m6)(f:Flow)(s':Shared):Prop :=
 match f with
 | .next=>∃σ' H',aM X pins σ' H' s'∧D.nx σ' H'
 | .brk=>∃σ' H',aM X pins σ' H' s'∧D.bk σ' H'
 | .cont=>∃σ' H',aM X pins σ' H' s'∧D.ct σ' H'
 | .ret u=>∃v σ' H',aM X pins σ' H' s'∧bg v u∧D.rt v H'
def PE(X:Cx)(e:Expr)(t:TE):Prop :=
 ∀(pins:List (Addr×Obj))(s:Shared)(σ:St)(H:Hp)(Q:VK),aM X pins σ H s->t σ H Q->wpAny (model X.prog X.w) X.A (eval e X.env) (EP X pins σ Q) X.xe s
def PT(X:Cx)(e:Expr)(t:TT):Prop :=
 ∀(pins:List (Addr×Obj))(s:Shared)(σ:St)(H:Hp)(Q:Bool->Hp->Prop),aM X pins σ H s->t σ H Q->wpAny (model X.prog X.w) X.A (isTrue e X.env (eval e X.env)) (TP X pins σ Q) X.xe s
def PW(X:Cx)(e:Expr)(t:TT):Prop :=
 ∀(whole:Sem Value)(pins:List (Addr×Obj))(s:Shared)(σ:St)(H:Hp)(Q:Bool->Hp->Prop),aM X pins σ H s->t σ H Q->wpAny (model X.prog X.w) X.A (isTrue e X.env whole) (TP X pins σ Q) X.xe s
theorem PW.pt{X:Cx}{e:Expr}{t:TT}(h:PW X e t):PT X e t:=h _
def PA(X:Cx)(es:List Expr)(t:TA):Prop :=
 ∀(pos:Pos)(pins:List (Addr×Obj))(s:Shared)(σ:St)(H:Hp)(Q:List V->Hp->Prop),aM X pins σ H s->t σ H Q->wpAny (model X.prog X.w) X.A (spliced (backTo pos (starEach es X.env))) (AP X pins σ Q) X.xe s
def PS(X:Cx)(st:Stmt)(t:TS):Prop :=
 ∀(pins:List (Addr×Obj))(s:Shared)(σ:St)(H:Hp)(D:m6),aM X pins σ H s->t D σ H->wpAny (model X.prog X.w) X.A (exec st X.env) (SP X pins D) X.xe s
def yc(X:Cx)(st:List Stmt)(t:TS):Prop :=
 ∀(pins:List (Addr×Obj))(s:Shared)(σ:St)(H:Hp)(D:m6),aM X pins σ H s->t D σ H->wpAny (model X.prog X.w) X.A (execs st X.env) (SP X pins D) X.xe s
theorem bE{α:Type}{t:Sem α}{Q Q':α->Shared->Prop}{M:Model}{A:Around}{E:Value->Shared->Prop}{s:Shared}(h:wpAny M A t Q E s)(hQ:∀a s,Q a s->Q' a s):wpAny M A t Q' E s:=wpAny_mono h hQ fun _ _ x=>x
section
variable{X:Cx}
inductive bL(i:Nat)(σ:L2.St)(H:Hp)(Q:VK):Prop
 | mk (v:_):σ[i]?=some (some v)->Q v H->bL i σ H Q
def tC(v:V):TE:=fun _ H Q=>Q v H
theorem D3{i:Nat}{x:Str}{pos:Pos}(hN:X.N[i]?=some x)(hv:Hu X.env.scope x)(hd:(x==("__debug__":Str))=false:=by decide)(hcd:(x==("__classdict__":Str))=false:=by decide):PE X (.Name x pos) (bL i):=by
 intro pins s σ H Q I h;obtain⟨v,e,h⟩:=h;obtain⟨m,hn,hl⟩:=I.loc;obtain⟨u,r,l⟩:=hl i x v hN e hv;have fin:EP X pins σ Q u s:=⟨v,H,I,r,h⟩;rcases l with ⟨hk,hm⟩ | ⟨hk,c,hc,hcell⟩
 ·exact wpAny_Name (wpAny_loadName_local I.ok.kind hk hn hm fin) hd
 ·rcases hk with hk | hk
  ·exact wpAny_Name (wpAny_loadName_cell I.ok.kind hk hc hcell fin) hd
  ·exact wpAny_Name (wpAny_loadName_free I.ok.kind hk hc hcell fin hcd) hd
theorem aA{i j pos}:PE X (.Constant (.int i) j pos) (tC (.int i)):=fun _ _ _ H _ I h=>wpAny_Constant_int ⟨.int i,H,I.tok _,⟨_,rfl⟩,h⟩
theorem Ja{b j pos}:PE X (.Constant (.bool b) j pos) (tC (.bl b)):=fun _ _ _ H _ I h=>Constant_bool ⟨.bl b,H,I,rfl,h⟩
theorem nY{j pos}:PE X (.Constant .none j pos) (tC .non):=fun _ _ _ H _ I h=>Constant_none ⟨.non,H,I,rfl,h⟩
theorem bf{x j pos}:PE X (.Constant (.str x) j pos) (tC (.str x)):=fun _ _ _ H _ I h=>Calls.Constant_str ⟨.str x,H,I.tok _,⟨_,rfl⟩,h⟩
def Gl(X:Cx)(x:Str):Prop:=X.env.kindOf x=some .globalImplicit
theorem kC{E:Value->Shared->Prop}{pins:List (Addr×Obj)}{s:Shared}{σ:St}{H:Hp}{x:Str}{u:Value}{pos:Pos}{Q:Value->Shared->Prop}(I:aM X pins σ H s)(hg:Gl X x)(hm:X.mg x=some u)(h:Q u s)
  (hd:(x==("__debug__":Str))=false:=by decide):wpAny (model X.prog X.w) X.A (eval (.Name x pos) X.env) Q E s :=
 Calls.Name_function_global I.ok.kind hg (Calls.loadGlobal_global (by rw[I.ok.glob];exact I.mod.glob.keeps I.bk) hm h) hd
theorem iI{E:Value->Shared->Prop}{pins:List (Addr×Obj)}{s:Shared}{σ:St}{H:Hp}{x:Str}{u:Value}{pos:Pos}{Q:Value->Shared->Prop}(I:aM X pins σ H s)(hg:Gl X x)(hm:X.mg x=none)(hv:bootBuiltins x=some u)(h:Q u s)
  (hn:x≠"__name__":=by decide)(hd:(x==("__debug__":Str))=false:=by decide):wpAny (model X.prog X.w) X.A (eval (.Name x pos) X.env) Q E s:=by
 obtain⟨mb,h1,h2⟩:=I.mod.blt;exact Calls.Name_function_global I.ok.kind hg (Calls.loadGlobal_builtin (by rw[I.ok.glob];exact I.mod.glob.keeps I.bk) hm (by rw[I.ok.blt];exact h1.keeps I.bk) ((h2 x hn).trans hv) h) hd
theorem bo{x:Str}{v:V}{u:Value}{pos:Pos}(hg:Gl X x)(hm:X.mg x=some u)(r:bg v u)(hd:(x==("__debug__":Str))=false:=by decide):PE X (.Name x pos) (tC v) :=
 fun _ _ _ H _ I h=>kC I hg hm ⟨v,H,I,r,h⟩ hd
variable{a b:Expr}{ta tb:TE}{pos:Pos}
def PC(X:Cx)(op:CmpOp)(a b:Expr)(t:TE):Prop :=
 ∀(pins:List (Addr×Obj))(s:Shared)(σ:St)(H:Hp)(Q:VK),aM X pins σ H s->t σ H Q →
  wpAny (model X.prog X.w) X.A (eval a X.env) (fun v s₁=>wpAny (model X.prog X.w) X.A (eval b X.env) (fun u s₂=>wpAny (model X.prog X.w) X.A (compareOp op v u) (EP X pins σ Q) X.xe s₂) X.xe s₁) X.xe s
theorem E2(b:Expr){op:CmpOp}(h:op≠.In)(h2:op≠.NotIn):behindInMarks op b=false:=by
 have e1:(op==CmpOp.In)=false:=by cases op<;>first | rfl | exact absurd rfl h
 have e2:(op==CmpOp.NotIn)=false:=by cases op<;>first | rfl | exact absurd rfl h2
 cases b<;>simp[behindInMarks,e1,e2]
def JX(ta:TE):TE:=fun σ H Q=>ta σ H fun x H1=>Q (.bl (decide (x=.non))) H1
theorem bg.none_iff{x:V}{v:Value}(r:bg x v):(v==Value.none)=decide (x=.non):=by
 cases x with
 | non=>cases r;rfl
 | bl _=>cases r;rfl
 | int _=>obtain⟨t,rfl⟩:=r;rfl
 | str _=>obtain⟨t,rfl⟩:=r;rfl
 | byt _=>obtain⟨t,rfl⟩:=r;rfl
 | flt _=>obtain⟨t,rfl⟩:=r;rfl
 | ref _=>cases r;rfl
 | ty _=>cases r;rfl
theorem GM{j pos'}(ha:PE X a ta):PC X .Is a (.Constant .none j pos') (JX ta):=by
 intro pins s σ H Q I h;refine bE (ha pins s σ H _ I h) fun v s1 ⟨x,H1,I1,r1,q1⟩=>?_;exact Constant_none (is_none_gen ⟨.bl _,H1,I1,by rw[r1.none_iff];rfl,q1⟩)
inductive K7(Q:Bool->Hp->Prop)(x:V)(H1:Hp):Prop
 | mk (c:_):x=.bl c->Q c H1->K7 Q x H1
def tB(t:TE):TT:=fun σ H Q=>t σ H fun x H1=>K7 Q x H1
theorem qY{op:CmpOp}{t:TE}(h:PC X op a b t)(h1:behindInMarks op b=false:=by first | exact E2 _ (by decide) (by decide) | rfl):PT X (.Compare a [op] [b] pos) (tB t):=by
 intro pins s σ H Q I hw;refine wpAny_isTrue_Compare1 (bE (h pins s σ H _ I hw) fun v s1 h1=>bE h1 fun u s2 h2=>bE h2 fun c s3 ⟨x,H1,I1,r1,q1⟩=>?_) h1;obtain⟨d,rfl,q⟩:=q1;cases r1;exact wpAny_truthy_bool ⟨H1,I1,q⟩
theorem bQ{e:Expr}{t:TE}(h:PE X e t)(he:∀whole,isTrue e X.env whole=(do let v ←whole;standAt e.pos;holding [v] (truthy v)):=by intro _;rfl):PT X e (tB t):=by
 intro pins s σ H Q I hw;refine isTrue_plain (bE (h pins s σ H _ I hw) fun v s1 ⟨x,H1,I1,r1,q1⟩=>?_) (he _);obtain⟨d,rfl,q⟩:=q1;cases r1;exact wpAny_truthy_bool ⟨H1,I1,q⟩
variable{tA tB':TT}{gk:List Expr}
def JS(t u:TT):TT:=fun σ H Q=>t σ H fun c H1=>if c=true then u σ H1 Q else Q false H1
def Ko(t u:TT):TT:=fun σ H Q=>t σ H fun c H1=>if c=true then Q true H1 else u σ H1 Q
def Jy(t:TT):TT:=fun σ H Q=>t σ H fun c H1=>Q (!c) H1
theorem F5(ha:PT X a tA):PW X (.BoolOp .And [a] pos) tA:=by
 intro wh pins s σ H Q I h;refine isTrue_and (bE (ha pins s σ H Q I h) fun c s1 e=>?_);cases c with
 | true=>exact isTrue_and_nil e
 | false=>exact e
theorem lA(ha:PT X a tA):PW X (.BoolOp .Or [a] pos) tA:=by
 intro wh pins s σ H Q I h;refine isTrue_or (bE (ha pins s σ H Q I h) fun c s1 e=>?_);cases c with
 | false=>exact isTrue_or_nil e
 | true=>exact e
theorem GU(ha:PT X a tA)(hb:PW X (.BoolOp .And (b::gk) pos) tB'):PW X (.BoolOp .And (a::b::gk) pos) (JS tA tB'):=by
 intro wh pins s σ H Q I h;refine isTrue_and (bE (ha pins s σ H _ I h) fun c s1 ⟨H1,I1,q1⟩=>?_);cases c with
 | true=>exact hb wh pins s1 σ H1 Q I1 q1
 | false=>exact⟨H1,I1,q1⟩
theorem qf(ha:PT X a tA)(hb:PW X (.BoolOp .Or (b::gk) pos) tB'):PW X (.BoolOp .Or (a::b::gk) pos) (Ko tA tB'):=by
 intro wh pins s σ H Q I h;refine isTrue_or (bE (ha pins s σ H _ I h) fun c s1 ⟨H1,I1,q1⟩=>?_);cases c with
 | true=>exact⟨H1,I1,q1⟩
 | false=>exact hb wh pins s1 σ H1 Q I1 q1
theorem dP(ha:PT X a tA):PT X (.UnaryOp .Not a pos) (Jy tA):=by
 intro pins s σ H Q I h;exact isTrue_not (ha pins s σ H (fun c H1=>Q (!c) H1) I h)
inductive Ei(tb:TE)(σ:L2.St)(Q:VK)(x:V)(H1:Hp):Prop
 | mk (c:_):x=.bl c->(if c=true then tb σ H1 Q else Q (.bl false) H1)->Ei tb σ Q x H1
def HV(ta tb:TE):TE:=fun σ H Q=>ta σ H fun x H1=>Ei tb σ Q x H1
inductive Gq(tb:TE)(σ:L2.St)(Q:VK)(x:V)(H1:Hp):Prop
 | mk (c:_):x=.bl c->(if c=true then Q (.bl true) H1 else tb σ H1 Q)->Gq tb σ Q x H1
def JC(ta tb:TE):TE:=fun σ H Q=>ta σ H fun x H1=>Gq tb σ Q x H1
inductive DD(Q:VK)(x:V)(H1:Hp):Prop
 | mk (c:_):x=.bl c->Q (.bl (!c)) H1->DD Q x H1
def Ii(ta:TE):TE:=fun σ H Q=>ta σ H fun x H1=>DD Q x H1
theorem rM{op}{t:TE}(h:PE X a t):PE X (.BoolOp op [a] pos) t:=fun pins s σ H Q I hw=>BoolOp_one (h pins s σ H Q I hw)
theorem DG(ha:PE X a ta)(hb:PE X (.BoolOp .And (b::gk) pos) tb):PE X (.BoolOp .And (a::b::gk) pos) (HV ta tb):=by
 intro pins s σ H Q I h;refine BoolOp_and (bE (ha pins s σ H _ I h) fun v s1 ⟨x,H1,I1,r1,q1⟩=>?_);obtain⟨c,rfl,q1⟩:=q1;cases r1;refine wpAny_truthy_bool ?_;cases c with
 | true=>exact hb pins s1 σ H1 Q I1 q1
 | false=>exact⟨.bl false,H1,I1,rfl,q1⟩
theorem Ci(ha:PE X a ta)(hb:PE X (.BoolOp .Or (b::gk) pos) tb):PE X (.BoolOp .Or (a::b::gk) pos) (JC ta tb):=by
 intro pins s σ H Q I h;refine BoolOp_or (bE (ha pins s σ H _ I h) fun v s1 ⟨x,H1,I1,r1,q1⟩=>?_);obtain⟨c,rfl,q1⟩:=q1;cases r1;refine wpAny_truthy_bool ?_;cases c with
 | false=>exact hb pins s1 σ H1 Q I1 q1
 | true=>exact⟨.bl true,H1,I1,rfl,q1⟩
theorem Hl(ha:PE X a ta):PE X (.UnaryOp .Not a pos) (Ii ta):=by
 intro pins s σ H Q I h;refine UnaryOp_ (bE (ha pins s σ H _ I h) fun v s1 ⟨x,H1,I1,r1,q1⟩=>?_);obtain⟨c,rfl,q1⟩:=q1;cases r1;exact not_of (wpAny_truthy_bool ⟨.bl (!c),H1,I1,rfl,q1⟩)
def Kp(t:TT)(ta tb:TE):TE:=fun σ H Q=>t σ H fun c H1=>if c=true then ta σ H1 Q else tb σ H1 Q
theorem DB{c:Expr}(hc:PT X c tA)(ha:PE X a ta)(hb:PE X b tb):PE X (.IfExp c a b pos) (Kp tA ta tb):=by
 intro pins s σ H Q I h;refine wpAny_IfExp (bE (hc pins s σ H _ I h) fun d s1 ⟨H1,I1,q1⟩=>?_);cases d with
 | true=>exact ha pins s1 σ H1 Q I1 q1
 | false=>exact hb pins s1 σ H1 Q I1 q1
end
def aH(K:Frag)(H:Hp)(a:Addr)(xs:List V):Prop :=
 Rd H a (.lst xs) ∨
  ∃(o:Obj)(its:Array Value)(n:Nat),K.lookup a=some o∧o.cls=.type "list"∧o.dict=none∧o.data=.seq its n∧its.size≤sizeLine∧b8 xs its.toList
def eB(K:Frag)(H:Hp)(a:Addr)(xs:List V):Prop :=
 Rd H a (.tup xs) ∨
  ∃(o:Obj)(its:Array Value)(n:Nat),K.lookup a=some o∧o.cls=.type "tuple"∧o.data=.seq its n∧its.size≤sizeLine∧b8 xs its.toList
def JQ:Value->Option V
 | .none=>some .non
 | .bool b=>some (.bl b)
 | .int i _=>some (.int i)
 | .str x _=>some (.str x)
 | .bytes b _=>some (.byt b)
 | .float b _=>some (.flt b)
 | .ref a=>some (.ref a)
 | .type n=>some (.ty n)
 | _=>none
theorem bg.abs{x:V}{u:Value}(r:bg x u):JQ u=some x:=by
 cases x with
 | non=>cases r;rfl
 | bl _=>cases r;rfl
 | int _=>obtain⟨t,rfl⟩:=r;rfl
 | str _=>obtain⟨t,rfl⟩:=r;rfl
 | byt _=>obtain⟨t,rfl⟩:=r;rfl
 | flt _=>obtain⟨t,rfl⟩:=r;rfl
 | ref _=>cases r;rfl
 | ty _=>cases r;rfl
theorem bg.inj{x y:V}{u:Value}(r:bg x u)(q:bg y u):x=y:=LS (r.abs.symm.trans q.abs)
theorem b8.inj:∀{xs ys:List V}{us:List Value},b8 xs us->b8 ys us->xs=ys
 | _,_,_,.nil,.nil=>rfl
 | _,_,_,.cons r t,.cons r' t'=>by rw[r.inj r',b8.inj t t']
section
variable{X:Cx}{pins:List (Addr×Obj)}{σ:St}{H:Hp}{s:Shared}{a:Addr}{xs ys:List V}
theorem aH.of{K:Frag}(h:H a=some (.lst xs)):aH K H a xs:=.inl (.inl h)
theorem eB.of{K:Frag}(h:H a=some (.tup xs)):eB K H a xs:=.inl (.inl h)
theorem aM.list(I:aM X pins σ H s)(h:aH X.K H a xs):∃its:List Value,b8 xs its∧PlainL s.heap a its.toArray∧xs.length≤sizeLine:=by
 rcases h with h | ⟨o,its,n,hk,hc,hd,hs,hz,r⟩
 ·obtain⟨z,its,n,r,e⟩:=h.ok I.hok;exact⟨its,r,⟨_,n,e,rfl,rfl,rfl⟩,z⟩
 ·refine⟨its.toList,r,⟨o,n,I.kIn a o hk,hc,hd,by simpa using hs⟩,?_⟩
  have e:=r.length;simp only[Lu] at e;omega
theorem aM.tuple(I:aM X pins σ H s)(h:eB X.K H a xs):∃its:List Value,b8 xs its∧IsTup s.heap a its.toArray∧xs.length≤sizeLine:=by
 rcases h with h | ⟨o,its,n,hk,hc,hs,hz,r⟩
 ·obtain⟨z,its,r,p⟩:=h.ok I.hok;exact⟨its,r,p,z⟩
 ·refine⟨its.toList,r,⟨o,I.kIn a o hk,hc,n,by simpa using hs⟩,?_⟩
  have e:=r.length;simp only[Lu] at e;omega
theorem aM.list_inj(I:aM X pins σ H s)(h:aH X.K H a xs)(h':aH X.K H a ys):xs=ys:=by
 obtain⟨its,r,⟨o,n,e,_,_,d⟩,_⟩:=I.list h;obtain⟨its',r',⟨o',n',e',_,_,d'⟩,_⟩:=I.list h';rw[e] at e';cases e';rw[d] at d';injection d' with d1 _
 have:its=its':=by simpa using congrArg Array.toList d1
 subst this;exact r.inj r'
theorem aM.tuple_inj(I:aM X pins σ H s)(h:eB X.K H a xs)(h':eB X.K H a ys):xs=ys:=by
 obtain⟨its,r,⟨o,e,_,n,d⟩,_⟩:=I.tuple h;obtain⟨its',r',⟨o',e',_,n',d'⟩,_⟩:=I.tuple h';rw[e] at e';cases e';rw[d] at d';injection d' with d1 _
 have:its=its':=by simpa using congrArg Array.toList d1
 subst this;exact r.inj r'
end
section
variable{X:Cx}{st:Stmt}{gk:List Stmt}{t u:TS}{e:Expr}{te:TE}{pos:Pos}
def IW:TS:=fun D σ H=>D.nx σ H
def IP(t u:TS):TS:=fun D σ H=>t {D with nx:=u D} σ H
theorem aB:yc X [] IW:=fun _ _ σ H _ I h=>wpAny_execs_nil ⟨σ,H,I,h⟩
theorem ae(h1:PS X st t)(h2:yc X gk u):yc X (st::gk) (IP t u):=by
 intro pins s σ H D I h;refine wpAny_execs_cons (bE (h1 pins s σ H {D with nx:=u D} I h) fun f s1 q=>?_)
 cases f with
 | next =>
  obtain⟨σ',H',I',q⟩:=q;exact h2 pins s1 σ' H' D I' q
 | ret v=>exact q
 | brk=>exact q
 | cont=>exact q
theorem ai(h1:PS X st t):yc X [st] t:=by
 intro pins s σ H D I h;refine wpAny_execs_cons (bE (h1 pins s σ H D I h) fun f s1 q=>?_);cases f with
 | next=>exact wpAny_execs_nil q
 | ret v=>exact q
 | brk=>exact q
 | cont=>exact q
theorem aM.quiet{pins:List (Addr×Obj)}{σ:St}{H:Hp}{s:Shared}(I:aM X pins σ H s):interactive X.env=false:=by simp[interactive,I.ok.kind]
def Ih(te:TE):TS:=fun D σ H=>te σ H fun _ H1=>D.nx σ H1
theorem bH(he:PE X e te)(hs:swapsWith e none pos.line X.env=pure false:=by rfl):PS X (.Expr e pos) (Ih te):=by
 intro pins s σ H D I h;exact wpAny_Expr_any (bE (he pins s σ H _ I h) fun v s1 ⟨x,H1,I1,r1,q1⟩=>⟨σ,H1,I1,q1⟩) I.quiet hs
def zJ(te:TE):TS:=fun D σ H=>te σ H D.rt
theorem aw(he:PE X e te):PS X (.Return (some e) pos) (zJ te):=by
 intro pins s σ H D I h;exact wpAny_Return_some (bE (he pins s σ H _ I h) fun v s1 ⟨x,H1,I1,r1,q1⟩=>⟨x,σ,H1,I1,r1,q1⟩)
def Jq(c:TT)(t u:TS):TS:=fun D σ H=>c σ H fun b H1=>if b=true then t D σ H1 else u D σ H1
theorem aV{c:Expr}{a b:List Stmt}{tc:TT}(hc:PT X c tc)(ha:yc X a t)(hb:yc X b u):PS X (.If c a b pos) (Jq tc t u):=by
 intro pins s σ H D I h;refine wpAny_If (bE (hc pins s σ H _ I h) fun d s1 ⟨H1,I1,q1⟩=>?_);cases d with
 | true=>exact ha pins s1 σ H1 D I1 q1
 | false=>exact hb pins s1 σ H1 D I1 q1
def HF:TS:=fun _ _ _=>False
theorem B7{sts:List Stmt}:yc X sts HF:=fun _ _ _ _ _ _ h=>h.elim
end
abbrev TG:=V->St->Hp->(St->Hp->Prop)->Prop
abbrev HN:=List V->St->Hp->(St->Hp->Prop)->Prop
def PG(X:Cx)(target:Expr)(t:TG):Prop :=
 ∀(pins:List (Addr×Obj))(s:Shared)(σ:St)(H:Hp)(v:V)(u:Value)(Q:St->Hp->Prop),aM X pins σ H s->bg v u->t v σ H Q →
  wpAny (model X.prog X.w) X.A (assign target X.env u) (fun _ s'=>∃σ' H',aM X pins σ' H' s'∧Q σ' H') X.xe s
def Jp(X:Cx)(ts:List Expr)(t:HN):Prop :=
 ∀(pins:List (Addr×Obj))(s:Shared)(σ:St)(H:Hp)(vs:List V)(us:List Value)(Q:St->Hp->Prop),aM X pins σ H s->b8 vs us->t vs σ H Q →
  wpAny (model X.prog X.w) X.A (assignInOrder ((assignEach ts X.env).map (·.2)) us) (fun _ s'=>∃σ' H',aM X pins σ' H' s'∧Q σ' H') X.xe s
abbrev Hj:=V->V->V->Hp->(Hp->Prop)->Prop
def HY(X:Cx)(t:Hj):Prop :=
 ∀(pins:List (Addr×Obj))(s:Shared)(σ:St)(H:Hp)(o i v:V)(ov iv u:Value)(Q:Hp->Prop),aM X pins σ H s->bg o ov->bg i iv->bg v u->t o i v H Q →
  wpAny (model X.prog X.w) X.A (setItem ov iv u) (fun _ s'=>∃H',aM X pins σ H' s'∧Q H') X.xe s
abbrev JB:=V->V->Hp->VK->Prop
def K4(X:Cx)(op:Operator)(t:JB):Prop :=
 ∀(pins:List (Addr×Obj))(s:Shared)(σ:St)(H:Hp)(x y:V)(v u:Value)(Q:VK),aM X pins σ H s->bg x v->bg y u->t x y H Q →
  wpAny (model X.prog X.w) X.A (inplaceOp op v u) (EP X pins σ Q) X.xe s
section
variable{X:Cx}{pos:Pos}
def eI(i:Nat):TG:=fun v σ H Q=>Q (σ.set i (some v)) H
theorem aO{i:Nat}{x:Str}(hN:X.N.Nodup)(hi:X.N[i]?=some x)(hx:Iy X.env.scope x)(hf:X.fn x=true∨X.env.scope.names.lookup x=some .local:=by first | exact .inl rfl | exact .inr rfl | assumption):PG X (.Name x pos) (eI i):=by
 intro pins s σ H v u Q I r h;exact wpAny_assign_Name (nv I hN hi hx r (fun s' I'=>⟨_,H,I',h⟩) hf)
def Bp:HN:=fun vs σ H Q=>vs=[]∧Q σ H
inductive jg(t:TG)(u:HN)(vs:List V)(σ:L2.St)(H:Hp)(Q:L2.St->Hp->Prop):Prop
 | mk (v r:_):vs=v::r->(t v σ H fun σ' H'=>u r σ' H' Q)->jg t u vs σ H Q
theorem iP:Jp X [] Bp:=by
 intro pins s σ H vs us Q I r h;obtain⟨e,h⟩:=h;subst e;cases r;exact assignInOrder_nil ⟨σ,H,I,h⟩
theorem cu{e:Expr}{es:List Expr}{t:TG}{u:HN}(h1:PG X e t)(h2:Jp X es u)
  (hs:(assignEach (e::es) X.env).map (·.2)=assign e X.env::(assignEach es X.env).map (·.2):=by rfl):Jp X (e::es) (jg t u):=by
 intro pins s σ H vs us Q I r h;obtain⟨v,vr,e1,h⟩:=h;subst e1;cases r with
 | cons r rr =>
  rw[hs];refine assignInOrder_cons (bE (h1 pins s σ H _ _ _ I r h) fun _ s1 ⟨σ1,H1,I1,q1⟩=>?_);exact h2 pins s1 σ1 H1 _ _ Q I1 rr q1
inductive zO(K:Frag)(n:Nat)(t:HN)(v:V)(σ:L2.St)(H:Hp)(Q:L2.St->Hp->Prop):Prop
 | mk (a xs:_):v=.ref a->eB K H a xs->xs.length=n->t xs σ H Q->zO K n t v σ H Q
theorem m5{es:List Expr}{k:Nat}{t:HN}{n:Nat}(hc:X.calm=true)(h:Jp X es t)
  (hn:(assignEach es X.env).length=n:=by rfl)(hst:(assignEach es X.env).findIdx? (·.1)=none:=by rfl):PG X (.Tuple es k pos) (zO X.K n t):=by
 intro pins s σ H v u Q I r hw;obtain⟨a,xs,e1,hq,hl,hw⟩:=hw;subst e1;cases r;obtain⟨its,rv,ht,hz⟩:=I.tuple hq;refine assign_Tuple_tuple (I.ok.hd hc) ht (by simp[hn,←hl,rv.length]) hst fun h' hx=>?_
 have I1:aM X pins σ H {s with heap:=h'}:=I.kept (t':=s.toks) fun b o e=>hx b o (Lj (KC e)) e
 exact h pins _ σ H xs _ Q I1 (by simpa using rv) hw
def JG(to ti:TE)(t:Hj):TG:=fun v σ H Q=>to σ H fun o H1=>ti σ H1 fun i H2=>t o i v H2 fun H3=>Q σ H3
theorem yi{o i:Expr}{to ti:TE}{t:Hj}(ho:PE X o to)(hi:PE X i ti)(hs:HY X t)
  (ha:∀v,assign (.Subscript o i pos) X.env v=(do
   let ov ←holding [v] (eval o X.env)
   let iv ←holding [v,ov] (eval i X.env)
   standAt pos
   holding [v,ov,iv] (setItem ov iv v)
   release [v,ov,iv] []):=by intro _;rfl):PG X (.Subscript o i pos) (JG to ti t):=by
 intro pins s σ H v u Q I r h;rw[ha];refine wpAny_bind (wpAny_holding (bE (ho pins s σ H _ I h) fun ov s1 ⟨x,H1,I1,r1,q1⟩=>?_));refine wpAny_bind (wpAny_holding (bE (hi pins s1 σ H1 _ I1 q1) fun iv s2 ⟨y,H2,I2,r2,q2⟩=>?_));refine wpAny_bind (wpAny_standAt (wpAny_bind (wpAny_holding (bE (hs pins s2 σ H2 x y v ov iv u _ I2 r1 r2 r q2) fun _ s3 ⟨H3,I3,q3⟩=>?_))));exact wpAny_release ⟨σ,H3,I3,q3⟩
def BZ(te:TE)(g:TG):TS:=fun D σ H=>te σ H fun x H1=>g x σ H1 D.nx
theorem yN{tg e:Expr}{te:TE}{g:TG}(he:PE X e te)(hg:PG X tg g)(hs:swapsWithSole [tg] e pos.line X.env=pure false:=by rfl)(hw:swappedStores [tg] e X.env=pure none:=by rfl)
  (h1:(assignEach [tg] X.env).map (·.2)=[assign tg X.env]:=by rfl):PS X (.Assign [tg] e pos) (BZ te g):=by
 intro pins s σ H D I h;refine wpAny_Assign_stores (bE (he pins s σ H _ I h) fun v s1 ⟨x,H1,I1,r1,q1⟩=>?_) hs hw;rw[h1];exact bE (hg pins s1 σ H1 x v _ I1 r1 q1) fun _ s2 q=>q
theorem aE{i:Nat}{x:Str}{e:Expr}{te:TE}{pos':Pos}(hN:X.N.Nodup)(hi:X.N[i]?=some x)(hx:Iy X.env.scope x)(he:PE X e te)(hs:swapsWith e (some (.Name x pos')) pos.line X.env=pure false:=by rfl)(hf:X.fn x=true∨X.env.scope.names.lookup x=some .local:=by first | exact .inl rfl | exact .inr rfl | assumption) :
  PS X (.Assign [.Name x pos'] e pos) (BZ te (eI i)):=by
 intro pins s σ H D I h;refine wpAny_Assign_Name (bE (he pins s σ H _ I h) fun v s1 ⟨y,H1,I1,r1,q1⟩=>?_) hs;exact nv I1 hN hi hx r1 (fun s2 I2=>⟨_,H1,I2,q1⟩) hf
inductive Ik(i:Nat)(te:TE)(ti:JB)(D:m6)(σ:L2.St)(H:Hp):Prop
 | mk (x:_):σ[i]?=some (some x)->(te σ H fun y H1=>ti x y H1 fun z H2=>D.nx (σ.set i (some z)) H2)->Ik i te ti D σ H
theorem Cy{i:Nat}{x:Str}{e:Expr}{te:TE}{op:Operator}{ti:JB}{pos':Pos}(hN:X.N.Nodup)(hi:X.N[i]?=some x)(hx:Iy X.env.scope x)(he:PE X e te)(ho:K4 X op ti)(hf:X.fn x=true∨X.env.scope.names.lookup x=some .local:=by first | exact .inl rfl | exact .inr rfl | assumption) :
  PS X (.AugAssign (.Name x pos') op e pos) (Ik i te ti):=by
 intro pins s σ H D I h;obtain⟨v,e1,h⟩:=h;obtain⟨m,hn,hl⟩:=I.loc;have vis:Hu X.env.scope x:=by rcases hx with k | k;exact .inl k;exact .inr (.inl k)
 obtain⟨u,r,l⟩:=hl i x v hi e1 vis;refine wpAny_AugAssign_Name ?_
 have go:wpAny (model X.prog X.w) X.A (eval e X.env) (fun w s₂=>wpAny (model X.prog X.w) X.A (inplaceOp op u w) (fun r s₃=>wpAny (model X.prog X.w) X.A (storeName X.env x r) (fun _=>SP X pins D .next) X.xe s₃) X.xe s₂) X.xe s:=by
  refine bE (he pins s σ H _ I h) fun w s1 ⟨y,H1,I1,r1,q1⟩=>?_;refine bE (ho pins s1 σ H1 v y u w _ I1 r r1 q1) fun z s2 ⟨zv,H2,I2,r2,q2⟩=>?_;exact nv I2 hN hi hx r2 (fun s3 I3=>⟨_,H2,I3,q2⟩) hf
 rcases l with ⟨hk,hm⟩ | ⟨hk,c,hc,hcell⟩
 ·exact wpAny_loadName_local I.ok.kind hk hn hm go
 ·rcases hk with hk | hk
  ·exact wpAny_loadName_cell I.ok.kind hk hc hcell go
  ·rcases hx with k | k
   ·have:X.env.scope.names.lookup x=some .free:=hk;rw[k] at this;cases this
   ·have:X.env.scope.names.lookup x=some .free:=hk;rw[k] at this;cases this
inductive K6(f:Int->Int->Int)(x:V)(y:V)(H:Hp)(Q:VK):Prop
 | mk (i j:_):x=.int i->y=.int j->Q (.int (f i j)) H->K6 f x y H Q
theorem DH:K4 X .Add (K6 fun i j=>i+j):=by
 intro pins s σ H x y v u Q I r1 r2 h;obtain⟨i,j,e1,e2,q⟩:=h;subst e1;subst e2;obtain⟨t,rfl⟩:=r1;obtain⟨t',rfl⟩:=r2;exact iadd_int ⟨.int _,H,I.tok _,⟨_,rfl⟩,q⟩
def HH(c:TT)(tb:TS):TS:=fun D σ H=>∃W:Nat->St->Hp->Prop,(∃m,W m σ H)∧∀m σ H,W m σ H →
 c σ H fun b H1=>if b=true then ∃N:St->Hp->Prop,(∀σ' H',N σ' H'->∃m',m' < m∧W m' σ' H')∧tb {D with nx:=N,ct:=N,bk:=D.nx} σ H1 else D.nx σ H1
theorem r8{c:Expr}{body:List Stmt}{tc:TT}{tb:TS}(hp:PassesOwn (model X.prog X.w) X.A X.env X.xe)(hc:PT X c tc)(hb:yc X body tb):PS X (.While c body [] pos) (HH tc tb):=by
 intro pins s σ H D I h;obtain⟨W,⟨m0,w0⟩,turn⟩:=h;refine wpAny_While (codeAny_whileLoop (fun n s'=>∃σ' H',aM X pins σ' H' s'∧W n σ' H') ?_ m0 ⟨σ,H,I,w0⟩);rintro n s1 ⟨σ1,H1,I1,w1⟩;refine wpAny_passesOwn hp (bE (hc pins s1 σ1 H1 _ I1 (turn n σ1 H1 w1)) fun b s2 ⟨H2,I2,q2⟩=>?_);cases b with
 | true =>
  obtain⟨N,hN,q2⟩:=q2;rw[if_pos rfl];refine wpAny_passesOwn hp (bE (hb pins s2 σ1 H2 _ I2 q2) fun f s3 q3=>?_);cases f with
  | next =>
   obtain⟨σ3,H3,I3,n3⟩:=q3;obtain⟨m',hm,w3⟩:=hN σ3 H3 n3;exact⟨m',hm,σ3,H3,I3,w3⟩
  | cont =>
   obtain⟨σ3,H3,I3,n3⟩:=q3;obtain⟨m',hm,w3⟩:=hN σ3 H3 n3;exact⟨m',hm,σ3,H3,I3,w3⟩
  | brk=>exact q3
  | ret v=>exact q3
 | false =>
  rw[if_neg KM];exact wpAny_execs_nil ⟨σ1,H2,I2,q2⟩
end
structure It where
 go:Nat->Hp->Prop
 yld:Nat->Hp->V->Hp->Prop
 stop:Nat->Hp->Prop
def jr(X:Cx)(pins:List (Addr×Obj))(H:Hp)(b:Addr):Prop :=
 H b=none∧b≠X.env.locals∧b∉X.fs∧(b∈X.ex∨X.s_0.heap.objs.size≤b)∧(∀x c,X.env.cells.lookup x=some c->c≠b)∧∀p∈X.pn++pins,p.1≠b
theorem aM.fpOk{X:Cx}{pins:List (Addr×Obj)}{σ:St}{H H':Hp}{s:Shared}{b:Addr}(I:aM X pins σ H s)(hb:s.heap.objs.size≤b)(hn:H' b=none):jr X pins H' b:=by
 refine⟨hn,LN (KU I.lt hb),I.nofs hb,.inr (Lh I.sz hb),fun x c e z=>?_,fun p hp z=>?_⟩
 ·obtain⟨v,q⟩:=I.cell x c e;exact absurd (KU q.lt (by rw[z];exact hb)) (Li _)
 ·exact absurd (KU (KC (I.pin p hp).1) (by rw[z];exact hb)) (Li _)
structure sx(P:Program)(w:World)(K:Frag)(tg:Expr)(J:It)(fp:List Addr)(it:Addr)(tn:Nat->Heap->Prop):Prop where
 mem:it∈fp
 obj:∀i h,tn i h->∀b∈fp,∃o,h.get? b=some o∧∀v,o.data≠.cell v
 keep:∀i h h',tn i h->(∀b∈fp,∀o,h.get? b=some o->h'.get? b=some o)->tn i h'
 item:∀(X:Cx),X.prog=P->X.w=w->X.K=K->X.calm=true->∀(i:Nat)(pins:List (Addr×Obj))(s:Shared)(σ:St)(H:Hp)(E:Value->Shared->Prop),aM X pins σ H s->(∀b∈fp,jr X pins H b)->tn i s.heap->J.go i H →
  wpAny (model P w) X.A (pyNext (.ref it)) (fun r s1=>∃u,r=some u ∧
   wpAny (model P w) X.A (letOwnedTupleGo tg (.ref it) u) (fun _ s2=>∃x H',aM X pins σ H' s2∧bg x u∧J.yld i H x H'∧tn (i+1) s2.heap∧∀b∈fp,H' b=none) E s1) E s
 done:∀(X:Cx),X.prog=P->X.w=w->X.K=K->X.calm=true->∀(i:Nat)(pins:List (Addr×Obj))(s:Shared)(σ:St)(H:Hp)(E:Value->Shared->Prop),aM X pins σ H s->(∀b∈fp,jr X pins H b)->tn i s.heap->J.stop i H →
  wpAny (model P w) X.A (pyNext (.ref it)) (fun r s1=>r=none∧aM X pins σ H s1) E s
 self:∀(A:Around)(i:Nat)(s:Shared)(Q:Value->Shared->Prop)(E:Value->Shared->Prop),tn i s.heap->Q (.ref it) s->wpAny (model P w) A (pyIter (.ref it)) Q E s
abbrev TI:=St->Hp->(It->Hp->Prop)->Prop
inductive Jn(X:Cx)(pins:List (Addr×Obj))(σ:St)(tg:Expr)(R:It->Hp->Prop)(itv:Value)(s2:Shared):Prop
 | mk (it:Addr) (fp:List Addr) (tn:Nat->Heap->Prop) (J:It) (H':Hp):itv=.ref it->aM X pins σ H' s2->sx X.prog X.w X.K tg J fp it tn->tn 0 s2.heap->(∀b∈fp,jr X pins H' b)->R J H'->Jn X pins σ tg R itv s2
def PI(X:Cx)(tg iter:Expr)(wi:TI):Prop :=
 ∀(pins:List (Addr×Obj))(s:Shared)(σ:St)(H:Hp)(R:It->Hp->Prop),aM X pins σ H s->wi σ H R →
  wpAny (model X.prog X.w) X.A (eval iter X.env) (fun v s1=>wpAny (model X.prog X.w) X.A (pyIter v) (Jn X pins σ tg R) X.xe s1) X.xe s
theorem xk{M:Model}{A:Around}{E:Value->Shared->Prop}{s:Shared}{tg:Expr}{it:Addr}{u:Value}{o:Obj}{n:String}{vs:Array Value}{Q:Unit->Shared->Prop}(ho:s.heap.get? it=some o)(hc:o.cls=.type n)(hd:o.data=.fields vs)
  (hn:["enumerate","zip","dict_itemiterator","dict_reverseitemiterator","odict_iterator","itertools.zip_longest","itertools.pairwise"].contains n=false)(hQ:Q () s):wpAny M A (letOwnedTupleGo tg (.ref it) u) Q E s:=by
 unfold letOwnedTupleGo
 cases tg<;>first
  | exact wpAny_pure hQ
  | (cases u<;>first
    | exact wpAny_pure hQ
    | (refine wpAny_bind (wpAny_load ho ?_);rw[hc,hd];show wpAny M A (if(["enumerate","zip","dict_itemiterator","dict_reverseitemiterator","odict_iterator","itertools.zip_longest","itertools.pairwise"].contains n&&vs[0]?==some (rawInt _))=true then _ else _) Q E s;rw[if_neg (by intro h;rw[hn,Bool.false_and] at h;cases h)];exact wpAny_pure hQ))
def FW(K:Frag)(a:Addr):It :=
 ⟨fun i H=>∃xs x,aH K H a xs∧xs[i]?=some x,fun i H x H'=>H'=H∧∀xs,aH K H a xs->xs[i]?=some x,fun i H=>∃xs,aH K H a xs∧xs.length≤i⟩
def FZ(K:Frag)(a:Addr):It :=
 ⟨fun i H=>∃xs x,eB K H a xs∧xs[i]?=some x,fun i H x H'=>H'=H∧∀xs,eB K H a xs->xs[i]?=some x,fun i H=>∃xs,eB K H a xs∧xs.length≤i⟩
def Fn(lo:Int)(n:Nat):It:=⟨fun i _=>i < n,fun i H x H'=>H'=H∧x=.int (lo+i),fun i _=>n≤i⟩
theorem C7{P:Program}{w:World}{K:Frag}{tg:Expr}(a it:Addr):sx P w K tg (FW K a) [it] it (fun i h=>h.IsListIter it a i) where
 mem:=by simp
 obj:=fun i h st b hb=>by
  have e:b=it:=by simpa using hb
  subst e;obtain⟨o,e,c,d⟩:=st;exact⟨o,e,fun v z=>by rw[d] at z;cases z⟩
 keep:=fun i h h' st k=>st.at fun o e=>k it (by simp) o e
 item:=by
  intro X hP hw hK hc i pins s σ H E I hf st hg;subst hP hw hK;obtain⟨xs,x,hq,hx⟩:=hg;obtain⟨its,rv,p,hz⟩:=I.list hq;obtain⟨u,hu,ru⟩:=rv.get hx;obtain⟨f0,f1,f2,f3,f4,f5⟩:=hf it (by simp)
  refine wpAny_pyNext_list_item st p.isList (x:=u) (by simpa using hu) fun h' st' sb=>?_
  have I1:aM X pins σ H {s with heap:=h'}:=I.turned (t':=s.toks) (fun b o hb e=>(sb.2 b hb).trans e) f0 f1 f3 f4 f5
  obtain⟨o,e,c,d⟩:=id st';exact⟨u,rfl,xk (s:={s with heap:=h'}) e c d (by decide) ⟨x,H,I1,ru,⟨rfl,fun ys hy=>by rw[I.list_inj hy hq];exact hx⟩,st',fun b hb=>(hf b hb).1⟩⟩
 done:=by
  intro X hP hw hK hc i pins s σ H E I hf st hg;subst hP hw hK;obtain⟨xs,hq,hx⟩:=hg;obtain⟨its,rv,p,hz⟩:=I.list hq;obtain⟨f0,f1,f2,f3,f4,f5⟩:=hf it (by simp)
  have hl:=rv.length;exact wpAny_pyNext_list_end (I.ok.hd hc) st p.isList (by simp;omega) fun h' eb=>⟨rfl,I.turned (t':=s.toks) (fun b o hb e=>eb b o hb e) f0 f1 f3 f4 f5⟩
 self:=fun _ _ _ _ _ st h=>wpAny_pyIter_listiter st h
theorem yf{P:Program}{w:World}{K:Frag}{tg:Expr}(a it:Addr):sx P w K tg (FZ K a) [it] it (fun i h=>h.IsTupleIter it a i) where
 mem:=by simp
 obj:=fun i h st b hb=>by
  have e:b=it:=by simpa using hb
  subst e;obtain⟨o,e,c,d⟩:=st;exact⟨o,e,fun v z=>by rw[d] at z;cases z⟩
 keep:=fun i h h' st k=>st.at fun o e=>k it (by simp) o e
 item:=by
  intro X hP hw hK hc i pins s σ H E I hf st hg;subst hP hw hK;obtain⟨xs,x,hq,hx⟩:=hg;obtain⟨its,rv,p,hz⟩:=I.tuple hq;obtain⟨u,hu,ru⟩:=rv.get hx;obtain⟨f0,f1,f2,f3,f4,f5⟩:=hf it (by simp)
  refine wpAny_pyNext_tuple_item st (show s.heap.IsTuple a its.toArray from p) (x:=u) (by simpa using hu) fun h' st' sb=>?_
  have I1:aM X pins σ H {s with heap:=h'}:=I.turned (t':=s.toks) (fun b o hb e=>(sb.2 b hb).trans e) f0 f1 f3 f4 f5
  obtain⟨o,e,c,d⟩:=id st';exact⟨u,rfl,xk (s:={s with heap:=h'}) e c d (by decide) ⟨x,H,I1,ru,⟨rfl,fun ys hy=>by rw[I.tuple_inj hy hq];exact hx⟩,st',fun b hb=>(hf b hb).1⟩⟩
 done:=by
  intro X hP hw hK hc i pins s σ H E I hf st hg;subst hP hw hK;obtain⟨xs,hq,hx⟩:=hg;obtain⟨its,rv,p,hz⟩:=I.tuple hq;obtain⟨f0,f1,f2,f3,f4,f5⟩:=hf it (by simp)
  have hl:=rv.length;exact wpAny_pyNext_tuple_end (I.ok.hd hc) st (show s.heap.IsTuple a its.toArray from p) (by simp;omega) fun h' eb=>⟨rfl,I.turned (t':=s.toks) (fun b o hb e=>eb b o hb e) f0 f1 f3 f4 f5⟩
 self:=fun _ _ _ _ _ st h=>wpAny_pyIter_tupleiter st h
theorem zr{P:Program}{w:World}{K:Frag}{tg:Expr}(it:Addr)(lo:Int)(n:Nat):sx P w K tg (Fn lo n) [it] it (fun i h=>IsRangeIter h it (lo+(i:Nat) * 1) ((n:Int) - (i:Nat)) 1) where
 mem:=by simp
 obj:=fun i h st b hb=>by
  have e:b=it:=by simpa using hb
  subst e
  exact⟨_,st,fun v z=>by
   have z':Data.fields _=Data.cell v:=z;cases z'⟩
 keep:=fun i h h' st k=>k it (by simp) _ st
 item:=by
  intro X hP hw hK hc i pins s σ H E I hf st hg;subst hP hw hK;obtain⟨f0,f1,f2,f3,f4,f5⟩:=hf it (by simp)
  have W:=Walks.range (prog:=X.prog) (w:=X.w) (I.ok.hd hc) it lo 1 n;refine W.item i s _ _ hg st fun v h' tk hv st' kk=>?_;obtain⟨t,rfl⟩:=hv;have I1:aM X pins σ H {s with heap:=h',toks:=tk}:=I.turned (fun b o hb e=>kk b o (by simpa using hb) e) f0 f1 f3 f4 f5
  refine⟨_,rfl,xk (s:={s with heap:=h',toks:=tk}) (n:="range_iterator") st' rfl rfl (by decide) ⟨.int (lo+i),H,I1,⟨t,?_⟩,⟨rfl,rfl⟩,st',fun b hb=>(hf b hb).1⟩⟩
  rw[Int.mul_one]
 done:=by
  intro X hP hw hK hc i pins s σ H E I hf st hg;subst hP hw hK;obtain⟨f0,f1,f2,f3,f4,f5⟩:=hf it (by simp)
  exact wpAny_pyNext_range_end (I.ok.hd hc) st (by have:n≤i:=hg;omega) fun h' eb=>⟨rfl,I.turned (t':=s.toks) (fun b o hb e=>eb b o hb e) f0 f1 f3 f4 f5⟩
 self:=fun _ _ _ _ _ st h=>wpAny_pyIter_rangeiter st h
section
variable{X:Cx}{tg:Expr}
inductive CP(K:Frag)(R:It->Hp->Prop)(x:V)(H1:Hp):Prop
 | mk (a:_):x=.ref a->(∃xs,aH K H1 a xs)->R (FW K a) H1->CP K R x H1
def Gs(K:Frag)(tl:TE):TI:=fun σ H R=>tl σ H fun x H1=>CP K R x H1
inductive G5(K:Frag)(R:It->Hp->Prop)(x:V)(H1:Hp):Prop
 | mk (a:_):x=.ref a->(∃xs,eB K H1 a xs)->R (FZ K a) H1->G5 K R x H1
def JW(K:Frag)(tl:TE):TI:=fun σ H R=>tl σ H fun x H1=>G5 K R x H1
theorem bF{l:Expr}{tl:TE}(hl:PE X l tl):PI X tg l (Gs X.K tl):=by
 intro pins s σ H R I h;refine bE (hl pins s σ H _ I h) fun v s1 ⟨x,H1,I1,r1,q1⟩=>?_;obtain⟨a,e,⟨xs,hq⟩,q⟩:=q1;subst e;cases r1;obtain⟨its,rv,p,hz⟩:=I1.list hq;refine wpAny_pyIter_list p.isList ?_;refine⟨s1.heap.objs.size,[s1.heap.objs.size],_,_,H1,rfl,I1.kept (t':=s1.toks) fun b o e=>KB _ e,C7 a _,⟨_,KD _ rfl,rfl,rfl⟩,fun b hb=>?_,q⟩;have e:b=s1.heap.objs.size:=by simpa using hb
 subst e;exact I1.fpOk (KG _) (I1.hok.fresh (KG _))
theorem Cm{l:Expr}{tl:TE}(hl:PE X l tl):PI X tg l (JW X.K tl):=by
 intro pins s σ H R I h;refine bE (hl pins s σ H _ I h) fun v s1 ⟨x,H1,I1,r1,q1⟩=>?_;obtain⟨a,e,⟨xs,hq⟩,q⟩:=q1;subst e;cases r1;obtain⟨its,rv,p,hz⟩:=I1.tuple hq;refine wpAny_pyIter_tuple (show s1.heap.IsTuple a its.toArray from p) ?_
 refine⟨s1.heap.objs.size,[s1.heap.objs.size],_,_,H1,rfl,I1.kept (t':=s1.toks) fun b o e=>KB _ e,yf a _,⟨_,KD _ rfl,rfl,rfl⟩,fun b hb=>?_,q⟩;have e:b=s1.heap.objs.size:=by simpa using hb
 subst e;exact I1.fpOk (KG _) (I1.hok.fresh (KG _))
theorem E4{pins:List (Addr×Obj)}{σ:St}{H:Hp}{s:Shared}{R:It->Hp->Prop}{E:Value->Shared->Prop}{lo hi:Int}{t u v:Tok}{tk:Nat}(I:aM X pins σ H s)(h1:-(2 ^ 62)≤lo)(h2:lo < 2 ^ 62)(h3:-(2 ^ 62)≤hi)(h4:hi < 2 ^ 62)
  (q:R (Fn lo (hi - lo).toNat) H):wpAny (model X.prog X.w) X.A (pyIter (.ref s.heap.objs.size)) (Jn X pins σ tg R) E {s with heap:=s.heap.push {cls:=.type "range",data:=.fields #[.int lo t,.int hi u,.int 1 v]},toks:=tk}:=by
 refine wpAny_pyIter_range (IsRange.new ..) (small_one h1 h2 h3 h4) ?_;have I1:aM X pins σ H {s with heap:=s.heap.push {cls:=.type "range",data:=.fields #[.int lo t,.int hi u,.int 1 v]},toks:=tk}:=I.kept fun b o e=>KB _ e
 refine⟨(s.heap.push {cls:=.type "range",data:=.fields #[.int lo t,.int hi u,.int 1 v]}).objs.size,[(s.heap.push {cls:=.type "range",data:=.fields #[.int lo t,.int hi u,.int 1 v]}).objs.size],_,_,H,rfl,
  I1.kept (t':=tk) fun b o e=>KB _ e,zr _ lo (hi - lo).toNat,?_,fun b hb=>?_,q⟩
 ·have e1:lo+((0:Nat):Int) * 1=lo:=by simp
  have e2:(((hi - lo).toNat:Nat):Int) - ((0:Nat):Int)=Builtin.Range.rangeSize lo hi 1:=by rw[rangeSize_one];split<;>omega
  show IsRangeIter _ _ (lo+((0:Nat):Int) * 1) ((((hi - lo).toNat:Nat):Int) - ((0:Nat):Int)) 1;rw[e1,e2];exact KD _ rfl
 ·have e:b=(s.heap.push {cls:=.type "range",data:=.fields #[.int lo t,.int hi u,.int 1 v]}).objs.size:=by simpa using hb
  subst e;exact I1.fpOk (KG _) (I1.hok.fresh (KG _))
inductive CU(R:It->Hp->Prop)(vs:List V)(H1:Hp):Prop
 | mk (j:Int):vs=[.int j]->-(2 ^ 62)≤j->j < 2 ^ 62->R (Fn 0 j.toNat) H1->CU R vs H1
def Ig(ta:TA):TI:=fun σ H R=>ta σ H fun vs H1=>CU R vs H1
theorem ip{a:Expr}{ta:TA}{p pos:Pos}(hg:Gl X "range")(hm:X.mg "range"=none)(ha:PA X [a] ta)(hs:starEach [a] X.env=[(false,eval a X.env)]:=by rfl):PI X tg (.Call (.Name "range" p) [a] [] pos) (Ig ta):=by
 intro pins s σ H R I h;refine Call_ (iI I hg hm boot_range (PyProof.Rows.callWith_type1 (bE (ha pos pins s σ H _ I h) fun us s1 ⟨vs,H1,I1,r1,q1⟩=>?_) hs rfl));obtain⟨j,e,q1,q2,q⟩:=q1;subst e;cases r1 with
 | cons r rr =>
  cases rr;obtain⟨t,rfl⟩:=r;exact call_range_1 (E4 I1 (by omega) (by omega) q1 q2 (by simpa using q))
def Jx(wi:TI)(g:TG)(tb:TS):TS:=fun D σ H=>wi σ H fun J H1=>∃W:Nat->Nat->St->Hp->Prop,(∃m,W 0 m σ H1)∧∀i m σ H,W i m σ H →
 (J.stop i H∧D.nx σ H)∨(J.go i H∧∃N:St->Hp->Prop,(∀σ' H',N σ' H'->∃m',m' < m∧W (i+1) m' σ' H')∧∀x H',J.yld i H x H'->g x σ H' fun σ2 H2=>tb {D with nx:=N,ct:=N,bk:=D.nx} σ2 H2)
def qg(fp:List Addr)(h:Heap):List (Addr×Obj):=fp.filterMap fun b=>(h.get? b).map fun o=>(b,o)
theorem lQ{fp:List Addr}{h:Heap}{b:Addr}{o:Obj}(hb:b∈fp)(e:h.get? b=some o):(b,o)∈qg fp h:=List.mem_filterMap.mpr ⟨b,hb,by rw[e];rfl⟩
theorem C6{fp:List Addr}{h:Heap}{p:Addr×Obj}(hp:p∈qg fp h):p.1∈fp∧h.get? p.1=some p.2:=by
 obtain⟨b,hb,e⟩:=List.mem_filterMap.mp hp;cases q:h.get? b with
 | none=>rw[q] at e;cases e
 | some o =>
  rw[q] at e;have e':(b,o)=p:=LS e;subst e';exact⟨hb,q⟩
theorem aM.pinned{pins:List (Addr×Obj)}{σ:St}{H:Hp}{s:Shared}{fp:List Addr}(I:aM X pins σ H s)(hf:∀b∈fp,jr X pins H b)(ho:∀b∈fp,∃o,s.heap.get? b=some o∧∀v,o.data≠.cell v):aM X (pins++qg fp s.heap) σ H s :=
 I.pins_of fun p hp=>(Lb.mp hp).elim (fun z=>I.pin p (List.mem_append_right _ z)) fun z=>by
  obtain⟨hb,e⟩:=C6 z;obtain⟨f0,f1,f2,_⟩:=hf p.1 hb;obtain⟨o,e',d⟩:=ho p.1 hb;rw[e] at e';cases e';exact⟨e,f0,f1,f2,d⟩
theorem aM.unpinned{pins pl:List (Addr×Obj)}{σ:St}{H:Hp}{s:Shared}(I:aM X (pins++pl) σ H s):aM X pins σ H s:=I.pins_of fun p hp=>I.pin p (List.mem_append_right _ (List.mem_append_left _ hp))
theorem gq{iter:Expr}{body:List Stmt}{wi:TI}{g:TG}{tb:TS}{pos:Pos}(hp:PassesOwn (model X.prog X.w) X.A X.env X.xe)(hc:X.calm=true)(hi:PI X tg iter wi)(hg:PG X tg g)(hb:yc X body tb)
  (hs:∀x,foldedSetIterable iter X.env x=pure x:=by intro _;rfl):PS X (.For tg iter body [] pos) (Jx wi g tb):=by
 intro pins s σ H D I h;refine wpAny_For (bE (hi pins s σ H _ I h) fun v s1 h1=>bE h1 fun itv s2 h2=>?_) hs;obtain⟨it,fp,tn,J,H2,e,I2,T,st2,f2,W,⟨m0,w0⟩,turn⟩:=h2;subst e;have stat:∀{H':Hp},(∀b∈fp,H' b=none)->∀b∈fp,jr X pins H' b:=fun hn b hb=>⟨hn b hb,(f2 b hb).2⟩;refine codeAny_forLoop_any (fun n s'=>∃i σ' H',aM X pins σ' H' s'∧tn i s'.heap∧(∀b∈fp,H' b=none)∧W i n σ' H') ?_ m0 ⟨0,σ,H2,I2,st2,fun b hb=>(f2 b hb).1,w0⟩;rintro n s3 ⟨i,σ3,H3,I3,st3,fr3,w3⟩;rcases turn i n σ3 H3 w3 with ⟨stop,qn⟩ | ⟨go,N,hN,step⟩
 ·refine wpAny_passesOwn hp (bE (T.done X rfl rfl rfl hc i pins s3 σ3 H3 X.xe I3 (stat fr3) st3 stop) fun r s4 ⟨hr,I4⟩=>?_);subst hr;exact wpAny_execs_nil ⟨σ3,H3,I4,qn⟩
 ·refine wpAny_passesOwn hp (bE (T.item X rfl rfl rfl hc i pins s3 σ3 H3 X.xe I3 (stat fr3) st3 go) fun r s4 ⟨u,hr,h4⟩=>?_);subst hr;refine wpAny_passesOwn hp (bE h4 fun _ s5 ⟨x,H5,I5,r5,y5,st5,fr5⟩=>?_);have I5':=I5.pinned (stat fr5) (T.obj _ _ st5);refine wpAny_passesOwn hp (bE (hg _ s5 σ3 H5 x u _ I5' r5 (step x H5 y5)) fun _ s6 ⟨σ6,H6,I6,q6⟩=>?_);refine wpAny_passesOwn hp (bE (hb _ s6 σ6 H6 _ I6 q6) fun f s7 q7=>?_)
  have again:∀{σ7:St}{H7:Hp},aM X (pins++qg fp s5.heap) σ7 H7 s7->N σ7 H7->∃m,m < n∧∃i σ' H',aM X pins σ' H' s7∧tn i s7.heap∧(∀b∈fp,H' b=none)∧W i m σ' H':=fun{σ7 H7} I7 n7=>by
   obtain⟨m',hm,w7⟩:=hN σ7 H7 n7;refine⟨m',hm,i+1,σ7,H7,I7.unpinned,T.keep _ _ _ st5 fun b hb o e=>(I7.pin (b,o) (List.mem_append_right _ (List.mem_append_right _ (lQ hb e)))).1,fun b hb=>?_,w7⟩;obtain⟨o,e,d⟩:=T.obj _ _ st5 b hb;exact(I7.pin (b,o) (List.mem_append_right _ (List.mem_append_right _ (lQ hb e)))).2.1
  cases f with
  | next=>obtain⟨σ7,H7,I7,n7⟩:=q7;exact again I7 n7
  | cont=>obtain⟨σ7,H7,I7,n7⟩:=q7;exact again I7 n7
  | brk=>obtain⟨σ7,H7,I7,q7⟩:=q7;exact⟨σ7,H7,I7.unpinned,q7⟩
  | ret v=>obtain⟨x7,σ7,H7,I7,r7,q7⟩:=q7;exact⟨x7,σ7,H7,I7.unpinned,r7,q7⟩
end
theorem mO{K:Frag}{a:Addr}{xs:List V}{g:TG}{tb:TS}{D:m6}{σ:St}{H:Hp}(Pv:Nat->St->Hp->Prop)(h0:Pv 0 σ H)(hl:∀i σ H,i≤xs.length->Pv i σ H->aH K H a xs)
  (hs:∀i x σ H,xs[i]?=some x->Pv i σ H->g x σ H fun σ2 H2=>tb {D with nx:=Pv (i+1),ct:=Pv (i+1),bk:=D.nx} σ2 H2)(hd:∀σ H,Pv xs.length σ H->D.nx σ H) :
  ∃W:Nat->Nat->St->Hp->Prop,(∃m,W 0 m σ H)∧∀i m σ H,W i m σ H →
   ((FW K a).stop i H∧D.nx σ H)∨((FW K a).go i H∧∃N:St->Hp->Prop,(∀σ' H',N σ' H'->∃m',m' < m∧W (i+1) m' σ' H')∧∀x H',(FW K a).yld i H x H'->g x σ H' fun σ2 H2=>tb {D with nx:=N,ct:=N,bk:=D.nx} σ2 H2):=by
 refine⟨fun i m σ H=>m=xs.length - i∧i≤xs.length∧Pv i σ H,⟨xs.length,by simp,KZ _,h0⟩,?_⟩
 rintro i m σ H ⟨rfl,hi,p⟩;have q:=hl i σ H hi p
 by_cases hlt:i < xs.length
 ·refine .inr ⟨⟨xs,xs[i],q,by simp[hlt]⟩,Pv (i+1),fun σ' H' p'=>⟨xs.length - (i+1),by omega,rfl,hlt,p'⟩,fun x H' y=>?_⟩
  obtain⟨e,y⟩:=y;subst e;exact hs i x σ _ (y xs q) p
 ·have e:i=xs.length:=by omega
  subst e;exact .inl ⟨⟨xs,q,KG _⟩,hd σ H p⟩
theorem FA{K:Frag}{a:Addr}{xs:List V}{g:TG}{tb:TS}{D:m6}{σ:St}{H:Hp}(Pv:Nat->St->Hp->Prop)(h0:Pv 0 σ H)(hl:∀i σ H,i≤xs.length->Pv i σ H->eB K H a xs)
  (hs:∀i x σ H,xs[i]?=some x->Pv i σ H->g x σ H fun σ2 H2=>tb {D with nx:=Pv (i+1),ct:=Pv (i+1),bk:=D.nx} σ2 H2)(hd:∀σ H,Pv xs.length σ H->D.nx σ H) :
  ∃W:Nat->Nat->St->Hp->Prop,(∃m,W 0 m σ H)∧∀i m σ H,W i m σ H →
   ((FZ K a).stop i H∧D.nx σ H)∨((FZ K a).go i H∧∃N:St->Hp->Prop,(∀σ' H',N σ' H'->∃m',m' < m∧W (i+1) m' σ' H')∧∀x H',(FZ K a).yld i H x H'->g x σ H' fun σ2 H2=>tb {D with nx:=N,ct:=N,bk:=D.nx} σ2 H2):=by
 refine⟨fun i m σ H=>m=xs.length - i∧i≤xs.length∧Pv i σ H,⟨xs.length,by simp,KZ _,h0⟩,?_⟩
 rintro i m σ H ⟨rfl,hi,p⟩;have q:=hl i σ H hi p
 by_cases hlt:i < xs.length
 ·refine .inr ⟨⟨xs,xs[i],q,by simp[hlt]⟩,Pv (i+1),fun σ' H' p'=>⟨xs.length - (i+1),by omega,rfl,hlt,p'⟩,fun x H' y=>?_⟩
  obtain⟨e,y⟩:=y;subst e;exact hs i x σ _ (y xs q) p
 ·have e:i=xs.length:=by omega
  subst e;exact .inl ⟨⟨xs,q,KG _⟩,hd σ H p⟩
theorem kL{lo:Int}{n:Nat}{g:TG}{tb:TS}{D:m6}{σ:St}{H:Hp}(Pv:Nat->St->Hp->Prop)(h0:Pv 0 σ H)
  (hs:∀i σ H,i < n->Pv i σ H->g (.int (lo+i)) σ H fun σ2 H2=>tb {D with nx:=Pv (i+1),ct:=Pv (i+1),bk:=D.nx} σ2 H2)(hd:∀σ H,Pv n σ H->D.nx σ H) :
  ∃W:Nat->Nat->St->Hp->Prop,(∃m,W 0 m σ H)∧∀i m σ H,W i m σ H →
   ((Fn lo n).stop i H∧D.nx σ H)∨((Fn lo n).go i H∧∃N:St->Hp->Prop,(∀σ' H',N σ' H'->∃m',m' < m∧W (i+1) m' σ' H')∧∀x H',(Fn lo n).yld i H x H'->g x σ H' fun σ2 H2=>tb {D with nx:=N,ct:=N,bk:=D.nx} σ2 H2):=by
 refine⟨fun i m σ H=>m=n - i∧i≤n∧Pv i σ H,⟨n,by simp,KZ _,h0⟩,?_⟩
 rintro i m σ H ⟨rfl,hi,p⟩
 by_cases hlt:i < n
 ·refine .inr ⟨hlt,Pv (i+1),fun σ' H' p'=>⟨n - (i+1),by omega,rfl,hlt,p'⟩,fun x H' y=>?_⟩
  obtain⟨e,y⟩:=y;subst e y;exact hs i σ _ hlt p
 ·have e:i=n:=by omega
  subst e;exact .inl ⟨KG _,hd σ H p⟩
abbrev R2:=V->V->Hp->VK->Prop
def uc(X:Cx)(f:Value->Value->Sem Value)(r:R2):Prop :=
 ∀(pins:List (Addr×Obj))(s:Shared)(σ:St)(H:Hp)(x y:V)(v u:Value)(Q:VK),aM X pins σ H s->bg x v->bg y u->r x y H Q →
  wpAny (model X.prog X.w) X.A (f v u) (EP X pins σ Q) X.xe s
def JZ(X:Cx)(f:Value->Sem Value)(r:V->Hp->VK->Prop):Prop :=
 ∀(pins:List (Addr×Obj))(s:Shared)(σ:St)(H:Hp)(x:V)(v:Value)(Q:VK),aM X pins σ H s->bg x v->r x H Q →
  wpAny (model X.prog X.w) X.A (f v) (EP X pins σ Q) X.xe s
def eN(X:Cx)(f:Value)(r:List V->Hp->VK->Prop):Prop :=
 ∀(pins:List (Addr×Obj))(s:Shared)(σ:St)(H:Hp)(xs:List V)(us:List Value)(Q:VK),aM X pins σ H s->b8 xs us->r xs H Q →
  wpAny (model X.prog X.w) X.A (call f us) (EP X pins σ Q) X.xe s
def zj(r:R2)(ta tb:TE):TE:=fun σ H Q=>ta σ H fun x H1=>tb σ H1 fun y H2=>r x y H2 Q
def Kh(r:V->Hp->VK->Prop)(ta:TE):TE:=fun σ H Q=>ta σ H fun x H1=>r x H1 Q
inductive An(g:Int->Int->V)(x:V)(y:V)(H:Hp)(Q:VK):Prop
 | mk (i j:_):x=.int i->y=.int j->Q (g i j) H->An g x y H Q
inductive rU(g:Int->V)(x:V)(H:Hp)(Q:VK):Prop
 | mk (i:_):x=.int i->Q (g i) H->rU g x H Q
section
variable{X:Cx}{a b c:Expr}{ta tb tc:TE}{pos:Pos}
theorem GG(ha:PE X a ta)(hb:PE X b tb){pins:List (Addr×Obj)}{s:Shared}{σ:St}{H:Hp}{R:V->V->Hp->Prop}(I:aM X pins σ H s)
  (h:ta σ H fun x H1=>tb σ H1 fun y H2=>R x y H2){Q:Value->Shared->Prop}{f:Value->Value->Sem Value}
  (hf:∀v u s2 x y H2,aM X pins σ H2 s2->bg x v->bg y u->R x y H2->wpAny (model X.prog X.w) X.A (f v u) Q X.xe s2) :
  wpAny (model X.prog X.w) X.A (eval a X.env) (fun v s₁=>wpAny (model X.prog X.w) X.A (eval b X.env) (fun u s₂=>wpAny (model X.prog X.w) X.A (f v u) Q X.xe s₂) X.xe s₁) X.xe s:=by
 refine bE (ha pins s σ H _ I h) fun v s1 ⟨x,H1,I1,r1,q1⟩=>?_;refine bE (hb pins s1 σ H1 _ I1 q1) fun u s2 ⟨y,H2,I2,r2,q2⟩=>?_;exact hf v u s2 x y H2 I2 r1 r2 q2
theorem dD{op:Operator}{r:R2}(ho:uc X (binaryOp op) r)(ha:PE X a ta)(hb:PE X b tb):PE X (.BinOp a op b pos) (zj r ta tb):=by
 intro pins s σ H Q I h;exact wpAny_BinOp (GG ha hb I h fun v u s2 x y H2 I2 rx ry q=>ho pins s2 σ H2 x y v u Q I2 rx ry q)
theorem bW{op:UnaryOp}{r:V->Hp->VK->Prop}(ho:JZ X (unaryOp op) r)(ha:PE X a ta):PE X (.UnaryOp op a pos) (Kh r ta):=by
 intro pins s σ H Q I h;exact UnaryOp_ (bE (ha pins s σ H _ I h) fun v s1 ⟨x,H1,I1,r1,q1⟩=>ho pins s1 σ H1 x v Q I1 r1 q1)
theorem Hh{f:Value->Value->Sem Value}{g:Int->Int->Int}
  (rule:∀(i j:Int) (t u:Tok) (s:Shared) (Q:Value->Shared->Prop) (E:Value->Shared->Prop),Q (.int (g i j) s.toks) {s with toks:=s.toks+1}->wpAny (model X.prog X.w) X.A (f (.int i t) (.int j u)) Q E s) :
  uc X f (An fun i j=>.int (g i j)):=by
 intro pins s σ H x y v u Q I rx ry h;obtain⟨i,j,rfl,rfl,q⟩:=h;obtain⟨t,rfl⟩:=rx;obtain⟨t',rfl⟩:=ry;exact rule i j t t' s _ _ ⟨.int (g i j),H,I.tok _,⟨_,rfl⟩,q⟩
theorem Hi{f:Value->Value->Sem Value}{g:Int->Int->Bool}
  (rule:∀(i j:Int) (t u:Tok) (s:Shared) (Q:Value->Shared->Prop) (E:Value->Shared->Prop),Q (.bool (g i j)) s->wpAny (model X.prog X.w) X.A (f (.int i t) (.int j u)) Q E s) :
  uc X f (An fun i j=>.bl (g i j)):=by
 intro pins s σ H x y v u Q I rx ry h;obtain⟨i,j,rfl,rfl,q⟩:=h;obtain⟨t,rfl⟩:=rx;obtain⟨t',rfl⟩:=ry;exact rule i j t t' s _ _ ⟨.bl (g i j),H,I,rfl,q⟩
theorem jA:uc X (binaryOp .Add) (An fun i j=>.int (i+j)):=Hh fun _ _ _ _ _ _ _ q=>add_int q
theorem vG:uc X (binaryOp .Sub) (An fun i j=>.int (i - j)):=Hh fun _ _ _ _ _ _ _ q=>sub_int q
theorem Gx:uc X (binaryOp .BitAnd) (An fun i j=>.int (Builtin.bitAnd i j)):=Hh fun _ _ _ _ _ _ _ q=>and_int q
theorem Kq{f:Value->Sem Value}{g:Int->Int}
  (rule:∀(i:Int) (t:Tok) (s:Shared) (Q:Value->Shared->Prop) (E:Value->Shared->Prop),Q (.int (g i) s.toks) {s with toks:=s.toks+1}->wpAny (model X.prog X.w) X.A (f (.int i t)) Q E s) :
  JZ X f (rU fun i=>.int (g i)):=by
 intro pins s σ H x v Q I rx h;obtain⟨i,rfl,q⟩:=h;obtain⟨t,rfl⟩:=rx;exact rule i t s _ _ ⟨.int (g i),H,I.tok _,⟨_,rfl⟩,q⟩
theorem bw:JZ X (unaryOp .USub) (rU fun i=>.int (-i)):=Kq fun _ _ _ _ _ q=>neg_int q
end
def Ip:V->V->Bool
 | .non,.non=>true | .non,.int _=>true | .int _,.non=>true | .non,.bl _=>true | .bl _,.non=>true | .non,.str _=>true | .str _,.non=>true
 | .int _,.int _=>true | .bl _,.bl _=>true | .str _,.str _=>true | .byt _,.byt _=>true
 | .int _,.str _=>true | .str _,.int _=>true | .bl _,.str _=>true | .str _,.bl _=>true
 | _,_=>false
def JY:R2:=fun x y H Q=>Ip x y=true∧Q (.bl (decide (x=y))) H
def Kj:R2:=fun x y H Q=>Ip x y=true∧Q (.bl (!decide (x=y))) H
theorem uA{i j:Int}:decide (V.int i=V.int j)=(i==j):=by
 rw[Bool.eq_iff_iff];simp
theorem CB{i j:Bool}:decide (V.bl i=V.bl j)=(i==j):=by
 rw[Bool.eq_iff_iff];simp
theorem AO{i j:Str}:decide (V.str i=V.str j)=(i==j):=by
 rw[Bool.eq_iff_iff];simp
theorem Aj{i j:Array UInt8}:decide (V.byt i=V.byt j)=(i.toList==j.toList):=by
 rw[Bool.eq_iff_iff];cases i;cases j;simp
section
variable{X:Cx}{a b c:Expr}{ta tb tc:TE}{pos:Pos}
theorem bu{pins:List (Addr×Obj)}{σ:St}{H:Hp}{s:Shared}{Q:VK}{k k':Bool}(I:aM X pins σ H s)(q:Q (.bl k) H)(e:k=k'):EP X pins σ Q (.bool k') s:=by
 subst e;exact⟨.bl k,H,I,rfl,q⟩
theorem bV:uc X (compareOp .Eq) JY:=by
 intro pins s σ H x y v u Q I rx ry h;obtain⟨hs,q⟩:=h;cases x with
 | non =>
  cases rx;cases y with
  | non=>cases ry;exact PySem.EqNone.eq_none_none (bu I q (by simp))
  | bl j=>cases ry;exact PySem.EqNone.eq_none_bool (bu I q (by simp))
  | int j=>obtain⟨t',rfl⟩:=ry;exact PySem.EqNone.eq_none_int (bu I q (by simp))
  | str j=>obtain⟨t',rfl⟩:=ry;exact PySem.EqNone.eq_none_str (bu I q (by simp))
  | _=>exact absurd (show false=true from hs) KM
 | bl i =>
  cases rx;cases y with
  | non=>cases ry;exact PySem.EqNone.eq_bool_none (bu I q (by simp))
  | bl j=>cases ry;exact eq_bool (bu I q CB)
  | str j=>obtain⟨t',rfl⟩:=ry;exact PySem.EqMixed.eq_bool_str (bu I q (by simp))
  | _=>exact absurd (show false=true from hs) KM
 | int i =>
  obtain⟨t,rfl⟩:=rx;cases y with
  | non=>cases ry;exact PySem.EqNone.eq_int_none (bu I q (by simp))
  | int j=>obtain⟨t',rfl⟩:=ry;exact eq_int (bu I q uA)
  | str j=>obtain⟨t',rfl⟩:=ry;exact PySem.EqMixed.eq_int_str (bu I q (by simp))
  | _=>exact absurd (show false=true from hs) KM
 | str i =>
  obtain⟨t,rfl⟩:=rx;cases y with
  | non=>cases ry;exact PySem.EqNone.eq_str_none (bu I q (by simp))
  | bl j=>cases ry;exact PySem.EqMixed.eq_str_bool (bu I q (by simp))
  | int j=>obtain⟨t',rfl⟩:=ry;exact PySem.EqMixed.eq_str_int (bu I q (by simp))
  | str j=>obtain⟨t',rfl⟩:=ry;exact eq_str (bu I q AO)
  | _=>exact absurd (show false=true from hs) KM
 | byt i =>
  obtain⟨t,rfl⟩:=rx;cases y with
  | byt j=>obtain⟨t',rfl⟩:=ry;exact PySem.W.eq_bytes (bu I q Aj)
  | _=>exact absurd (show false=true from hs) KM
 | _=>cases y<;>exact absurd (show false=true from hs) KM
theorem qI:uc X (compareOp .NotEq) Kj:=by
 intro pins s σ H x y v u Q I rx ry h;obtain⟨hs,q⟩:=h;cases x with
 | non =>
  cases rx;cases y with
  | non=>cases ry;exact PySem.EqNone.ne_none_none (bu I q (by simp))
  | bl j=>cases ry;exact PySem.EqNone.ne_none_bool (bu I q (by simp))
  | int j=>obtain⟨t',rfl⟩:=ry;exact PySem.EqNone.ne_none_int (bu I q (by simp))
  | str j=>obtain⟨t',rfl⟩:=ry;exact PySem.EqNone.ne_none_str (bu I q (by simp))
  | _=>exact absurd (show false=true from hs) KM
 | bl i =>
  cases rx;cases y with
  | non=>cases ry;exact PySem.EqNone.ne_bool_none (bu I q (by simp))
  | bl j=>cases ry;exact ne_bool (bu I q (congrArg not CB))
  | str j=>obtain⟨t',rfl⟩:=ry;exact PySem.EqMixed.ne_bool_str (bu I q (by simp))
  | _=>exact absurd (show false=true from hs) KM
 | int i =>
  obtain⟨t,rfl⟩:=rx;cases y with
  | non=>cases ry;exact PySem.EqNone.ne_int_none (bu I q (by simp))
  | int j=>obtain⟨t',rfl⟩:=ry;exact ne_int (bu I q (congrArg not uA))
  | str j=>obtain⟨t',rfl⟩:=ry;exact PySem.EqMixed.ne_int_str (bu I q (by simp))
  | _=>exact absurd (show false=true from hs) KM
 | str i =>
  obtain⟨t,rfl⟩:=rx;cases y with
  | non=>cases ry;exact PySem.EqNone.ne_str_none (bu I q (by simp))
  | bl j=>cases ry;exact PySem.EqMixed.ne_str_bool (bu I q (by simp))
  | int j=>obtain⟨t',rfl⟩:=ry;exact PySem.EqMixed.ne_str_int (bu I q (by simp))
  | str j=>obtain⟨t',rfl⟩:=ry;exact ne_str (bu I q (congrArg not AO))
  | _=>exact absurd (show false=true from hs) KM
 | byt i =>
  obtain⟨t,rfl⟩:=rx;cases y with
  | byt j=>obtain⟨t',rfl⟩:=ry;exact PySem.W.ne_bytes (bu I q (congrArg not Aj))
  | _=>exact absurd (show false=true from hs) KM
 | _=>cases y<;>exact absurd (show false=true from hs) KM
theorem Gj:uc X (compareOp .Lt) (An fun i j=>.bl (decide (i < j))):=Hi fun _ _ _ _ _ _ _ q=>lt_int q
theorem tO:uc X (compareOp .LtE) (An fun i j=>.bl (decide (i≤j))):=Hi fun _ _ _ _ _ _ _ q=>le_int q
theorem rE:uc X (compareOp .Gt) (An fun i j=>.bl (decide (j < i))):=Hi fun _ _ _ _ _ _ _ q=>gt_int q
theorem Hx:uc X (compareOp .Is) (fun x y H Q=>y=.non∧Q (.bl (decide (x=.non))) H):=by
 intro pins s σ H x y v u Q I rx ry h;obtain⟨rfl,q⟩:=h;cases ry;refine is_none_gen (bu I q ?_)
 cases x<;>first
  | (cases rx;rfl)
  | (obtain⟨t,rfl⟩:=rx;rfl)
theorem EL:uc X (compareOp .IsNot) (fun x y H Q=>y=.non∧Q (.bl (!decide (x=.non))) H):=by
 intro pins s σ H x y v u Q I rx ry h;obtain⟨rfl,q⟩:=h;cases ry;refine isnot_none_gen (bu I q ?_)
 cases x<;>first
  | (cases rx;rfl)
  | (obtain⟨t,rfl⟩:=rx;rfl)
theorem aR(b:Expr){op:CmpOp}(h:op≠.In:=by decide)(h2:op≠.NotIn:=by decide):behindInMarks op b=false:=by
 have e1:(op==CmpOp.In)=false:=by cases op<;>first | rfl | exact absurd rfl h
 have e2:(op==CmpOp.NotIn)=false:=by cases op<;>first | rfl | exact absurd rfl h2
 cases b<;>simp[behindInMarks,e1,e2]
theorem eE{op:CmpOp}{r:R2}(ho:uc X (compareOp op) r)(ha:PE X a ta)(hb:PE X b tb)(hm:behindInMarks op b=false):PE X (.Compare a [op] [b] pos) (zj r ta tb):=by
 intro pins s σ H Q I h;exact wpAny_Compare1 (GG ha hb I h fun v u s2 x y H2 I2 rx ry q=>ho pins s2 σ H2 x y v u Q I2 rx ry q) hm
inductive Ep(Q:Bool->Hp->Prop)(x:V)(H':Hp):Prop
 | mk (k:_):x=.bl k->Q k H'->Ep Q x H'
def En(t:TE):TT:=fun σ H Q=>t σ H fun x H'=>Ep Q x H'
theorem aI{op:CmpOp}{r:R2}(ho:uc X (compareOp op) r)(ha:PE X a ta)(hb:PE X b tb)(hm:behindInMarks op b=false):PT X (.Compare a [op] [b] pos) (En (zj r ta tb)):=by
 intro pins s σ H Q I h
 refine wpAny_isTrue_Compare1 (bE (ha pins s σ H _ I h) fun v s1 ⟨x,H1,I1,r1,q1⟩=>bE (hb pins s1 σ H1 _ I1 q1) fun u s2 ⟨y,H2,I2,r2,q2⟩ =>
  bE (ho pins s2 σ H2 x y v u _ I2 r1 r2 q2) fun c s3 ⟨z,H3,I3,r3,k,e,q3⟩=>?_) hm
 subst e;cases r3;exact wpAny_truthy_bool ⟨H3,I3,q3⟩
inductive AD(r':R2)(tc:TE)(σ:L2.St)(Q:VK)(y:V)(z:V)(H3:Hp):Prop
 | mk (k:_):z=.bl k->(if k=true then tc σ H3 fun w' H4=>r' y w' H4 Q else Q (.bl false) H3)->AD r' tc σ Q y z H3
def zQ(r r':R2)(ta tb tc:TE):TE:=fun σ H Q=>ta σ H fun x H1=>tb σ H1 fun y H2=>r x y H2 fun z H3=>AD r' tc σ Q y z H3
theorem wM{op op':CmpOp}{r r':R2}(ho:uc X (compareOp op) r)(ho':uc X (compareOp op') r')(ha:PE X a ta)(hb:PE X b tb)(hc:PE X c tc)
  (hm:lastMarks [op,op'] [b,c]=false:=by with_unfolding_all rfl):PE X (.Compare a [op,op'] [b,c] pos) (zQ r r' ta tb tc):=by
 intro pins s σ H Q I h
 refine Compare_chain (bE (ha pins s σ H _ I h) fun v s1 ⟨x,H1,I1,r1,q1⟩=>chain_link (bE (hb pins s1 σ H1 _ I1 q1) fun u s2 ⟨y,H2,I2,r2,q2⟩ =>
  bE (ho pins s2 σ H2 x y v u _ I2 r1 r2 q2) fun d s3 ⟨z,H3,I3,r3,k,e,q3⟩=>?_)) hm
 subst e;cases r3;refine wpAny_truthy_bool ?_;cases k with
 | false=>exact ite_ff ⟨.bl false,H3,I3,rfl,q3⟩
 | true=>exact ite_tt (chain_last (bE (hc pins s3 σ H3 _ I3 q3) fun w' s4 ⟨z',H4,I4,r4,q4⟩=>ho' pins s4 σ H4 y z' u w' Q I4 r2 r4 q4))
theorem vt:(sizeLine:Nat) < 2 ^ 63:=by rw[sizeLine_eq];decide
theorem oM{x:V}{us:List Value}(r:b8 [x] us):∃u,us=[u]∧bg x u:=by
 cases r with
 | cons r1 r2=>cases r2;exact⟨_,rfl,r1⟩
theorem HP{x y:V}{us:List Value}(r:b8 [x,y] us):∃u w',us=[u,w']∧bg x u∧bg y w':=by
 cases r with
 | cons r1 r2 =>
  cases r2 with
  | cons r3 r4=>cases r4;exact⟨_,_,rfl,r1,r3⟩
theorem uW:eN X (.type "str") (fun xs H Q=>∃i,xs=[.int i]∧i.natAbs.log2 < 1920∧Q (.str (toString i)) H):=by
 intro pins s σ H xs us Q I r h;obtain⟨i,rfl,hz,q⟩:=h;obtain⟨u,rfl,t,rfl⟩:=oM r;exact PySem.P.str_of_int hz ⟨.str _,H,I.tok _,⟨_,rfl⟩,q⟩
theorem iA:eN X (.builtin "ord") (fun xs H Q=>∃x,xs=[.str x]∧x.length=1∧Q (.int (x.cps.getD 0 0:Nat)) H):=by
 intro pins s σ H xs us Q I r h;obtain⟨x,rfl,hz,q⟩:=h;obtain⟨u,rfl,t,rfl⟩:=oM r;exact ord_of_one hz ⟨.int _,H,I.tok _,⟨_,rfl⟩,q⟩
end
structure yz(h:Heap)(x dx C:Addr)(mA:Str->Option Value):Prop where
 obj:h.get? x=some (instObj C dx)
 ns:h.Ns1 dx mA
 ne:dx≠x
theorem BM{h:Heap}{dx:Addr}{mA:Str->Option Value}(n:h.Ns1 dx mA):∃od,h.get? dx=some od∧∀name,PySem.W.lookIn name od=some (mA name):=by
 obtain⟨o,es,ep,ho,hd,hk,_,hm⟩:=n;refine⟨o,ho,fun name=>?_⟩;have e:=hm name;unfold nsFind findBy at e;rw[←Array.find?_toList] at e;unfold PySem.W.lookIn;rw[hd];dsimp only
 split
 ·rename_i y q
  rw[q] at e;exact congrArg some e
 ·rename_i q
  rw[q] at e
  have a:es.toList.any (·.refKey)=false:=by
   rw[List.any_eq_false];intro y hy;obtain⟨z,t,hkey⟩:=hk y (Array.mem_toList_iff.mp hy);simp[DictEntry.refKey,hkey]
  have a':¬es.toList.any (·.refKey)=true:=by rw[a];exact KM
  rw[if_neg a'];exact congrArg some e
theorem yz.look{h:Heap}{x dx C:Addr}{mA:Str->Option Value}(I:yz h x dx C mA):∃od,PySem.W.InstAt h x (instObj C dx) C (some od)∧∀name,PySem.W.lookIn name od=some (mA name) :=
 let ⟨od,ho,hl⟩:=BM I.ns
 ⟨od,⟨I.obj,rfl,rfl,ho⟩,hl⟩
section
variable{prog:Program}{w:World}{A:Around}{E:Value->Shared->Prop}{s:Shared}{K:Frag}{x dx C f:Addr}{mA:Str->Option Value}{name:Str}{v:Value}
theorem FL{expr:Bool}{Q:Value->Shared->Prop}(X:K.In s.heap)(I:yz s.heap x dx C mA)(hg:PySem.W.plainGet K C name=true)(hh:PySem.W.hasDictIn K C=true)
  (ha:findIn K (.ref C) name=some none)(hv:mA name=some v)(hv':PySem.W.handedIn v=true)(h:Q v {s with toks:=s.toks+1}) :
  wpAny (model prog w) A (getAttr (.ref x) name expr) Q E s:=by
 obtain⟨od,J,hl⟩:=I.look;exact PySem.W.get_value X J (PySem.W.plainGet_of hg).1 (PySem.W.findObj_own hh ha rfl (by rw[hl,hv])) hv' h
theorem DW{pl:Sem Bool}{Q:Value×List Value->Shared->Prop}(X:K.In s.heap)(I:yz s.heap x dx C mA)(hg:PySem.W.plainGet K C name=true)
  (hf:findIn K (.ref C) name=some (some (.ref f)))(ht:isFn K (.ref f)=true)(hv:mA name=none)(h:Q (.ref f,[.ref x]) s) :
  wpAny (model prog w) A (getMethod (.ref x) name pl) Q E s:=by
 obtain⟨od,J,hl⟩:=I.look;exact PySem.W.method_fn X J (PySem.W.plainGet_of hg).1 (PySem.W.plainGet_of hg).2 hf (beq_iff_eq.mp ht) (by show(PySem.W.lookIn name od).map (·.isSome)=some false;rw[hl,hv];rfl) h
theorem FC{ns:List Str}{Q:Unit->Shared->Prop}(X:K.In s.heap)(I:yz s.heap x dx C mA)
  (hs:findIn K (.ref C) "__setattr__"=some (some (.builtin "object.__setattr__")))(hp:PySem.W.plainOver K C=true)(ht:PySem.W.takerIn K C name=some none)(hh:PySem.W.hasDictIn K C=true)
  (hw:PySem.Within mA ns)(hsz:ns.length≤sizeLine)
  (h:∀h',yz h' x dx C (fun y=>if y=name then some v else mA y)->Heap.SameBut dx s.heap h'->Q () {s with heap:=h',toks:=s.toks+2}) :
  wpAny (model prog w) A (setAttr (.ref x) name v) Q E s:=by
 obtain⟨od,J,hl⟩:=I.look;refine PySem.W.set_plain X J hs (PySem.W.osa_open (s:={s with toks:=s.toks+1}) (r:=none) X J hp ht fun b=>?_)
 obtain⟨cd,hc,hd'⟩:=PySem.W.any_some hh;have hx:s.heap.get? x=some ⟨.ref C,some dx,.plain,#[]⟩:=I.obj;refine wpAny_bind (wpAny_pure (wpAny_bind (wpAny_bind (wpAny_loadPart hx (wpAny_bind (PySem.W.Looks.here (s:={s with toks:=s.toks+1}) (PySem.W.looks_clsIn X hc) ?_))))))
 rw[hd'];refine wpAny_pure (a:=some dx) (wpAny_bind (wpAny_pure (wpAny_bind ?_)));refine wpAny_nsSet1 (s:={s with toks:=s.toks+1}) I.ns fun h' hn2 hs2=>?_
 obtain⟨oD,esD,epD,hoD,hdD,hcD⟩:=hn2.count (PySem.Within.cons name v hw);refine wpAny_bind (wpAny_lookBehind hoD (by rw[hdD];exact pastItsLine_dict (Lh hcD (by rw[Kx];omega))) ?_)
 exact wpAny_pure (h _ ⟨(hs2.2 _ (Ne.symm I.ne)).trans I.obj,hn2,I.ne⟩ hs2)
theorem CD{R:Result->Shared->Prop}{vs:List Value}{kw:List (Str×Value)}(X:K.In s.heap)(hm:makesIn K C=true)
  (hi:findIn K (.ref C) "__init__"=some (some (.ref f)))(hf:PySem.W.typeIn K (.ref f)=some (.type "function"))
  (h:codeAny (model prog w) (A.under (.builtin "type.__call__" ⟨.ref C::vs,kw⟩)) (.call (.ref f) ⟨.ref (s.heap.objs.size+1)::vs,kw⟩) (PySem.W.InitBack (s.heap.objs.size+1) R)
   {s with heap:=(s.heap.push emptyDict).push (instObj C s.heap.objs.size)}) :
  codeAny (model prog w) A (.call (.ref C) ⟨vs,kw⟩) R s:=by
 obtain⟨hh,g,d,t,os⟩:=s;exact PySem.W.make_core (PySem.W.makes_of X hm) (PySem.W.looks_findIn X hi) (fun self=>PySem.W.bind_fn X self hf) (.inl rfl) h
end
def gc(f:Str)(v:V):List (Str×V)->List (Str×V)
 | []=>[(f,v)]
 | (g,x)::r=>if g=f then(g,v)::r else(g,x)::gc f v r
theorem oP(f g:Str)(v:V):∀fs:List (Str×V),(gc f v fs).lookup g=if g=f then some v else fs.lookup g
 | []=>by
  show List.lookup g [(f,v)]=_
  by_cases h:g=f
  ·have hb:(g==f)=true:=beq_iff_eq.mpr h;simp only[List.lookup,hb,if_pos h]
  ·have hb:(g==f)=false:=beq_eq_false_iff_ne.mpr h;simp only[List.lookup,hb,if_neg h]
 | (k,x)::r=>by
  have ih:=oP f g v r;rw[show gc f v ((k,x)::r)=(if k=f then(k,v)::r else(k,x)::gc f v r) from rfl]
  by_cases hk:k=f
  ·rw[if_pos hk]
   by_cases h:g=k
   ·have hb:(g==k)=true:=beq_iff_eq.mpr h;simp only[List.lookup,hb,if_pos (h.trans hk)]
   ·have hb:(g==k)=false:=beq_eq_false_iff_ne.mpr h;simp only[List.lookup,hb,if_neg (fun e:g=f=>h (e.trans hk.symm))]
  ·rw[if_neg hk]
   by_cases h:g=k
   ·have hb:(g==k)=true:=beq_iff_eq.mpr h;simp only[List.lookup,hb,if_neg (fun e:g=f=>hk (h.symm.trans e))]
   ·have hb:(g==k)=false:=beq_eq_false_iff_ne.mpr h;simp only[List.lookup,hb];exact ih
theorem nR(f:Str)(v:V):∀fs:List (Str×V),f∈(gc f v fs).map (·.1)∧∀g,g∈fs.map (·.1)->g∈(gc f v fs).map (·.1)
 | []=>⟨by simp[gc],fun g h=>by simp at h⟩
 | (k,x)::r=>by
  obtain⟨i1,i2⟩:=nR f v r;rw[show gc f v ((k,x)::r)=(if k=f then(k,v)::r else(k,x)::gc f v r) from rfl]
  by_cases hk:k=f
  ·rw[if_pos hk];subst hk;exact⟨by simp,fun g h=>by simpa using h⟩
  ·rw[if_neg hk];refine⟨?_,fun g h=>?_⟩
   ·rw[KR];exact KH _ i1
   ·rw[KR] at h ⊢;rcases List.mem_cons.mp h with e | e
    ·exact List.mem_cons.mpr (.inl e)
    ·exact KH _ (i2 g e)
theorem oO(f:Str)(v:V):∀fs:List (Str×V),(gc f v fs).length≤fs.length+1
 | []=>by simp[gc]
 | (k,x)::r=>by
  have ih:=oO f v r;rw[show gc f v ((k,x)::r)=(if k=f then(k,v)::r else(k,x)::gc f v r) from rfl]
  by_cases hk:k=f
  ·rw[if_pos hk,Kx,Kx];omega
  ·rw[if_neg hk,Kx,Kx];omega
theorem gD.some_of{v:V}{o:Option Value}(r:gD (some v) o):∃u,o=some u∧bg v u:=by
 cases o with
 | none=>exact(show False from r).elim
 | some u=>exact⟨u,rfl,r⟩
theorem gD.none_of{o:Option Value}(r:gD none o):o=none:=by
 cases o with
 | none=>rfl
 | some u=>exact(show False from r).elim
theorem Bg{v:V}{u:Value}(r:bg v u):PySem.W.handedIn u=true:=by
 cases v with
 | non=>cases (show u=Value.none from r);rfl
 | bl b=>cases (show u=Value.bool b from r);rfl
 | int i=>obtain⟨t,e⟩:=(show ∃t,u=Value.int i t from r);cases e;rfl
 | str x=>obtain⟨t,e⟩:=(show ∃t,u=Value.str x t from r);cases e;rfl
 | byt b=>obtain⟨t,e⟩:=(show ∃t,u=Value.bytes b t from r);cases e;rfl
 | flt b=>obtain⟨t,e⟩:=(show ∃t,u=Value.float b t from r);cases e;rfl
 | ref a=>cases (show u=Value.ref a from r);rfl
 | ty n=>cases (show u=Value.type n from r);rfl
section
variable{P:Program}{w:World}{H H':Hp}{h h':Heap}{a C dx:Addr}{fs fs':List (Str×V)}
theorem wb(hok:fN P w H h)(e:H a=some (.ins C dx fs)):∃mA,yz h a dx C mA∧(∀f,gD (fs.lookup f) (mA f))∧PySem.Within mA (fs.map (·.1))∧fs.length≤1000∧H dx=some (.own a):=by
 obtain⟨d,z,ne,ob,mA,n,r,q⟩:=(show bB P w H h a (.ins C dx fs) from hok a _ e)
 exact⟨mA,⟨ob,n,ne⟩,r,q,z,d⟩
end
structure wN(K:Frag)(C:Addr):Prop where
 pg:PySem.W.plainGet K C Str.empty=true
 hd:PySem.W.hasDictIn K C=true
 po:PySem.W.plainOver K C=true
 sa:findIn K (.ref C) "__setattr__"=some (some (.builtin "object.__setattr__"))
theorem wN.get{K:Frag}{C:Addr}(c:wN K C)(f:Str):PySem.W.plainGet K C f=true:=c.pg
def cQ(K:Frag)(C:Addr)(f:Str):Prop:=findIn K (.ref C) f=some none
theorem cQ.taker{K:Frag}{C:Addr}{f:Str}(n:cQ K C f):PySem.W.takerIn K C f=some none:=by
 unfold PySem.W.takerIn;rw[show findIn K (.ref C) f=some none from n]
 rfl
structure DT(K:Frag)(C:Addr)(m:Str)(f:Addr):Prop where
 at_:findIn K (.ref C) m=some (some (.ref f))
 fn:isFn K (.ref f)=true
 kp:keepIn K (.ref f)=true
section
variable{X:Cx}{pins:List (Addr×Obj)}{σ:St}{H:Hp}{s:Shared}{a C dx:Addr}{fs:List (Str×V)}{f:Str}{v:V}{A:Around}{E:Value->Shared->Prop}
theorem rD{b:Bool}{Q:Value->Shared->Prop}(I:aM X pins σ H s)(e:H a=some (.ins C dx fs))(c:wN X.K C)(n:cQ X.K C f)(l:fs.lookup f=some v)
  (h:∀u s',aM X pins σ H s'->bg v u->Q u s'):wpAny (model X.prog X.w) A (getAttr (.ref a) f b) Q E s:=by
 obtain⟨mA,O,r,_,_,_⟩:=wb I.hok e;obtain⟨u,hu,ru⟩:=gD.some_of (v:=v) (o:=mA f) (by rw[←l];exact r f)
 exact FL I.kIn O (c.get f) c.hd n hu (Bg ru) (h u _ (I.tok _) ru)
theorem rX{m:Str}{g:Addr}{pl:Sem Bool}{Q:Value×List Value->Shared->Prop}(I:aM X pins σ H s)(e:H a=some (.ins C dx fs))(c:wN X.K C)(k:DT X.K C m g)(l:fs.lookup m=none)
  (h:Q (.ref g,[.ref a]) s):wpAny (model X.prog X.w) A (getMethod (.ref a) m pl) Q E s:=by
 obtain⟨mA,O,r,_,_,_⟩:=wb I.hok e;have hn:mA m=none:=gD.none_of (by rw[←l];exact r m)
 exact DW I.kIn O (c.get m) k.at_ k.fn hn h
theorem r6{y:V}{u:Value}{Q:Unit->Shared->Prop}(I:aM X pins σ H s)(e:H a=some (.ins C dx fs))(c:wN X.K C)(n:cQ X.K C f)(hl:fs.length < 1000)(ry:bg y u)
  (h:∀s',aM X pins σ (upd H a (.ins C dx (gc f y fs))) s'->Q () s'):wpAny (model X.prog X.w) A (setAttr (.ref a) f u) Q E s:=by
 obtain⟨mA,O,r,wi,_,ho⟩:=wb I.hok e;have hz:(fs.map (·.1)).length≤sizeLine:=by rw[Kv,sizeLine_eq];omega
 refine FC I.kIn O c.sa c.po n.taker c.hd wi hz fun h' O' sb=>h _ ?_;have hd:∃o,h'.get? dx=some o:=let ⟨o,_,_,e',_⟩:=O'.ns;⟨o,e'⟩;refine I.write (x:=a) (e:=dx) (by rw[e];exact True.intro) (.inr ho) (fun b q hb z=>(sb.2 b hb).trans z) hd ?_
 refine⟨by rw[ak O.ne];exact ho,?_,O.ne,O'.obj,_,O'.ns,fun g=>?_,fun g hg=>?_⟩
 ·have:=oO f y fs;omega
 ·show gD ((gc f y fs).lookup g) (if g=f then some u else mA g);rw[oP]
  by_cases q:g=f
  ·rw[if_pos q,if_pos q];exact ry
  ·rw[if_neg q,if_neg q];exact r g
 ·by_cases q:g=f
  ·rw[q];exact(nR f y fs).1
  ·refine(nR f y fs).2 g (wi g fun z=>hg ?_);show(if g=f then some u else mA g)=none;rw[if_neg q];exact z
theorem aM.made(I:aM X pins σ H s):aM X pins σ (upd (upd H s.heap.objs.size (.own (s.heap.objs.size+1))) (s.heap.objs.size+1) (.ins C s.heap.objs.size []))
  {s with heap:=(s.heap.push emptyDict).push (instObj C s.heap.objs.size)}:=by
 have e1:(s.heap.push emptyDict).get? s.heap.objs.size=some emptyDict:=KD s.heap rfl
 have e2:((s.heap.push emptyDict).push (instObj C s.heap.objs.size)).get? (s.heap.objs.size+1)=some (instObj C s.heap.objs.size):=by
  have:=KD (s.heap.push emptyDict) (o:=instObj C s.heap.objs.size) rfl
  rwa [LP] at this
 have e3:(s.heap.push emptyDict).Ns s.heap.objs.size (fun _=>none):=⟨emptyDict,#[],_,e1,rfl,(fun e he=>absurd he (by simp)),fun _=>rfl⟩
 have I1:=I.laid (a:=s.heap.objs.size) (o:=.own (s.heap.objs.size+1)) (h':=s.heap.push emptyDict) (t':=s.toks) (fun b u q=>KB _ q) (KG _) ⟨_,e1⟩;refine I1.laid (a:=s.heap.objs.size+1) (o:=.ins C s.heap.objs.size []) (t':=s.toks) (fun b u q=>KB _ q) (LU (LP _ _)) ?_;have ne:s.heap.objs.size≠s.heap.objs.size+1:=Lj (LO _);refine⟨by rw[ak ne,a9],KZ _,ne,e2,fun _=>none,(Heap.Ns1.of_empty e3).at fun o q=>KB _ q,fun _=>True.intro,fun y hy=>absurd rfl hy⟩
theorem Ax{prog:Program}{w:World}{env:Env}{e:Expr}{f:Str}{pos:Pos}{s:Shared}{Q:Value->Shared->Prop}(hb:attributeBase e f env (eval e env)=eval e env)
  (h:wpAny (model prog w) A (eval e env) (fun o s₁=>wpAny (model prog w) A (getAttr o f true) Q E s₁) E s):wpAny (model prog w) A (eval (.Attribute e f pos) env) Q E s :=
 Attribute_any_ h (by rw[arm_eval_Attribute,hb])
end
inductive G8(K:Frag)(f:Str)(Q:VK)(x:V)(H1:Hp):Prop
 | mk (a C dx fs v:_):x=.ref a->H1 a=some (.ins C dx fs)->wN K C->cQ K C f->fs.lookup f=some v->Q v H1->G8 K f Q x H1
def Hm(K:Frag)(ta:TE)(f:Str):TE:=fun σ H Q=>ta σ H fun x H1=>G8 K f Q x H1
inductive Gp(K:Frag)(f:Str)(D:m6)(σ:L2.St)(y:V)(x:V)(H2:Hp):Prop
 | mk (a C dx fs:_):x=.ref a->H2 a=some (.ins C dx fs)->wN K C->cQ K C f->fs.length < 1000->D.nx σ (upd H2 a (.ins C dx (gc f y fs)))->Gp K f D σ y x H2
def JD(K:Frag)(ta tv:TE)(f:Str):TS:=fun D σ H=>tv σ H fun y H1=>ta σ H1 fun x H2=>Gp K f D σ y x H2
def Iw(X:Cx)(op:Operator)(rd:V->V->Hp->VK->Prop):Prop :=
 ∀(pins:List (Addr×Obj))(s:Shared)(σ:St)(H:Hp)(x y:V)(u v:Value)(Q:VK),aM X pins σ H s->bg x u->bg y v->rd x y H Q->wpAny (model X.prog X.w) X.A (inplaceOp op u v) (EP X pins σ Q) X.xe s
inductive ya(K:Frag)(tv:TE)(rd:V->V->Hp->VK->Prop)(f:Str)(D:m6)(σ:L2.St)(x:V)(H1:Hp):Prop
 | mk (a C dx fs v:_):x=.ref a->H1 a=some (.ins C dx fs)->wN K C->cQ K C f->fs.lookup f=some v->(tv σ H1 fun y H2=>rd v y H2 fun z H3=>∃dx' fs',H3 a=some (.ins C dx' fs')∧fs'.length < 1000∧D.nx σ (upd H3 a (.ins C dx' (gc f z fs'))))->ya K tv rd f D σ x H1
def Fg(K:Frag)(ta tv:TE)(rd:V->V->Hp->VK->Prop)(f:Str):TS:=fun D σ H=>ta σ H fun x H1=>ya K tv rd f D σ x H1
section
variable{X:Cx}{o e value:Expr}{f:Str}{pos pos' tpos:Pos}{ta tv:TE}
theorem aG(he:PE X e ta)(hb:attributeBase e f X.env (eval e X.env)=eval e X.env):PE X (.Attribute e f pos) (Hm X.K ta f):=by
 intro pins s σ H Q I h;refine Ax hb (bE (he pins s σ H _ I h) fun u s1 ⟨x,H1,I1,rx,a,C,dx,fs,v,ex,ea,c,n,l,q⟩=>?_);subst ex;obtain rfl:u=Value.ref a:=rx;exact rD I1 ea c n l fun u' s2 I2 ru=>⟨v,H1,I2,ru,q⟩
theorem eQ(ha:PE X o ta)(hv:PE X value tv)(hs:swapsWith value (some (.Attribute o f pos')) pos.line X.env=pure false):PS X (.Assign [.Attribute o f pos'] value pos) (JD X.K ta tv f):=by
 intro pins s σ H D I h;refine plainObj_wpAny_Assign_Attribute (bE (hv pins s σ H _ I h) fun u s1 ⟨y,H1,I1,ry,q⟩=>bE (ha pins s1 σ H1 _ I1 q) fun ov s2 ⟨x,H2,I2,rx,a,C,dx,fs,ex,ea,c,n,l,q2⟩=>?_) hs;subst ex;obtain rfl:ov=Value.ref a:=rx;exact r6 I2 ea c n l ry fun s3 I3=>⟨σ,_,I3,q2⟩
theorem BO{op:Operator}{rd:V->V->Hp->VK->Prop}(ha:PE X o ta)(hv:PE X value tv)(hop:Iw X op rd):PS X (.AugAssign (.Attribute o f tpos) op value pos) (Fg X.K ta tv rd f):=by
 intro pins s σ H D I h;refine wpAny_AugAssign_AttributeAny (bE (ha pins s σ H _ I h) fun ov s1 ⟨x,H1,I1,rx,a,C,dx,fs,v,ex,ea,c,n,l,q⟩=>?_);subst ex;obtain rfl:ov=Value.ref a:=rx;refine rD I1 ea c n l fun u s2 I2 ru=>bE (hv pins s2 σ H1 _ I2 q) fun w3 s3 ⟨y,H2,I3,ry,q3⟩=>bE (hop pins s3 σ H2 v y u w3 _ I3 ru ry q3) fun w4 s4 ⟨z,H3,I4,rz,dx',fs',ea',l',q4⟩=>?_;exact r6 I4 ea' c n l' rz fun s5 I5=>⟨σ,_,I5,q4⟩
inductive IF(x:V)(y:V)(H:Hp)(Q:VK):Prop
 | mk (i j:_):x=.int i->y=.int j->Q (.int (i+j)) H->IF x y H Q
theorem HJ:Iw X .Add IF:=by
 rintro pins s σ H x y u v Q I rx ry ⟨i,j,rfl,rfl,q⟩;obtain⟨t,rfl⟩:=(show ∃t,u=Value.int i t from rx)
 obtain⟨t',rfl⟩:=(show ∃t',v=Value.int j t' from ry)
 exact PyProof.Rows.iadd_int ⟨.int (i+j),H,I.tok _,⟨_,rfl⟩,q⟩
end
structure cX(k:Nat)(A:Around):Prop where
 hd:A.handled=none
 dp:A.depth+3 * k+5 < recursionLimit
 un:A.units+16 * k+200 < cLine
theorem cX.mono{j k:Nat}{A:Around}(r:cX k A)(h:j≤k):cX j A:=⟨r.hd,by have:=r.dp;omega,by have:=r.un;omega⟩
theorem cX.deeper{k:Nat}{A:Around}(r:cX (k+1) A)(env:Env):cX k (A.deeper env) :=
 ⟨r.hd,by have:=r.dp;show A.depth+1+3 * k+5 < _;omega,by have:=r.un;show A.units+3+16 * k+200 < _;omega⟩
theorem yk{A:Around}{C:Addr}{us:List Value}{kw:List (Str×Value)}:(A.under (.builtin "type.__call__" ⟨.ref C::us,kw⟩)).depth=A.depth+1:=by
 first | rfl | simp[Around.under,Code.weight,Code.isCreation,Code.isGuard,Code.isCaller,Code.frames,Code.isFrame,guardIds]
theorem yE{A:Around}{C:Addr}{us:List Value}{kw:List (Str×Value)}:(A.under (.builtin "type.__call__" ⟨.ref C::us,kw⟩)).units=A.units+1:=by
 first | rfl | simp[Around.under,Code.cUnits,Code.frames,Code.isFrame]
theorem cX.make{k:Nat}{A:Around}(r:cX (k+1) A)(C:Addr)(us:List Value)(kw:List (Str×Value)):cX k (A.under (.builtin "type.__call__" ⟨.ref C::us,kw⟩)) :=
 ⟨r.hd,by have:=r.dp;rw[yk];omega,by have:=r.un;rw[yE];omega⟩
theorem cX.depth{k:Nat}{A:Around}(r:cX k A):A.depth < recursionLimit:=by have:=r.dp;omega
theorem cX.units{k:Nat}{A:Around}(r:cX k A):A.units+64 < cLine:=by have:=r.un;omega
def gP:TA:=fun _ H Q=>Q [] H
def bZ(ta:TE)(tr:TA):TA:=fun σ H Q=>ta σ H fun x H1=>tr σ H1 fun xs H2=>Q (x::xs) H2
section
variable{X:Cx}{e:Expr}{es:List Expr}{te:TE}{t:TA}{pos:Pos}
theorem aa:PA X [] gP:=fun _ _ _ _ H Q I h=>Calls.spliced_nil ⟨[],H,I,.nil,h⟩
theorem a8(ha:PE X e te)(hr:PA X es t)(hs:starEach (e::es) X.env=(false,eval e X.env)::starEach es X.env:=by rfl):PA X (e::es) (bZ te t):=by
 intro pos pins s σ H Q I h;rw[hs];show wpAny _ _ (spliced ((false,eval e X.env)::backTo pos (starEach es X.env))) _ _ s;refine Calls.spliced_cons (bE (ha pins s σ H _ I h) fun u s1 ⟨x,H1,I1,r1,q1⟩=>?_);exact bE (hr pos pins s1 σ H1 _ I1 q1) fun us s2 ⟨xs,H2,I2,r2,q2⟩=>⟨x::xs,H2,I2,.cons r1 r2,q2⟩
def Ju(t:TA):TE:=fun σ H Q=>t σ H fun xs H1=>xs.length≤sizeLine∧∀p,H1 p=none->Q (.ref p) (upd H1 p (.tup xs))
def Ic(t:TA):TE:=fun σ H Q=>t σ H fun xs H1=>xs.length≤sizeLine∧∀p,H1 p=none->Q (.ref p) (upd H1 p (.lst xs))
theorem vW{x1}(h:PA X es t):PE X (.Tuple es x1 pos) (Ju t):=by
 intro pins s σ H Q I hq;refine wpAny_Tuple_spliced (bE (h pos pins s σ H _ I hq) fun us s1 ⟨xs,H1,I1,r,z,q⟩=>⟨by rw[←r.length];exact z,?_⟩)
 have hf:H1 s1.heap.objs.size=none:=I1.hok.fresh (KG _);refine⟨.ref s1.heap.objs.size,upd H1 s1.heap.objs.size (.tup xs),I1.laid (t':=s1.toks) (fun b u e=>KB _ e) (KG _) ?_,rfl,q _ hf⟩;exact⟨z,us,r,⟨_,KD _ rfl,rfl,_,rfl⟩⟩
theorem aN(h:PA X es t):PE X (.List es pos) (Ic t):=by
 intro pins s σ H Q I hq;refine wpAny_List_spliced (bE (h pos pins s σ H _ I hq) fun us s1 ⟨xs,H1,I1,r,z,q⟩=>⟨by rw[←r.length];exact z,?_⟩)
 have hf:H1 s1.heap.objs.size=none:=I1.hok.fresh (KG _);refine⟨.ref s1.heap.objs.size,upd H1 s1.heap.objs.size (.lst xs),I1.laid (t':=s1.toks) (fun b u e=>KB _ e) (KG _) ?_,rfl,q _ hf⟩;exact⟨z,us,0,r,KD _ rfl⟩
end
abbrev Sp:=List V->Hp->VK->XK->Prop
abbrev Cc:=List Env->Hp->Shared->XK->Value->Shared->Prop
structure yX(P:Program)(w:World)(K:Frag)(mg:Str->Option Value)(base:Heap)(A:Around)(outer:List Env)(s:Shared)(H:Hp):Prop where
 frames:A.frames=some outer
 mod:Jh K mg base
 bs:∀b o,base.get? b=some o->s.heap.get? b=some o∧H b=none
 bsz:base.objs.size≤s.heap.objs.size
 funs:s.heap.FunFrames base outer
 frf:∀b∈wj outer,H b=none
 hok:fN P w H s.heap
 bare:AllBare s.gens
inductive CE(outer:List Env)(P:Program)(w:World)(H:Hp)(s:Shared)(Q:VK)(u:Value)(s':Shared):Prop
 | mk (v H':_):s'.os=s.os->AllBare s'.gens->Un (wj outer) [] H H' s.heap s'.heap->fN P w H' s'.heap->bg v u->Q v H'->CE outer P w H s Q u s'
def CR(CX:Cc)(outer:List Env)(P:Program)(w:World)(H:Hp)(s:Shared)(Q:VK)(E:XK)(r:Result)(s':Shared):Prop :=
 match r with
 | .ok (.ret u)=>CE outer P w H s Q u s'
 | .ok _=>False
 | .error e=>CX outer H s E e s'
structure dh(P:Program)(w:World)(K:Frag)(mg:Str->Option Value)(base:Heap)(CX:Cc)(k:Nat)(f:Addr)(fd:FuncData)(ps:List Str)(sp:Sp):Prop where
 len:∀vs H Q E,sp vs H Q E->vs.length=ps.length
 run:∀(A:Around)(outer:List Env)(s:Shared)(H:Hp)(args:Args)(us:List Value)(vs:List V)(Q:VK)(E:XK),cX k A->yX P w K mg base A outer s H->BindsTo s fd args (ps.zip us)->b8 vs us->sp vs H Q E →
  codeAny (model P w) A (.call (.ref f) args) (CR CX outer P w H s Q E) s
theorem dh.mono{P:Program}{w:World}{K:Frag}{mg:Str->Option Value}{base:Heap}{CX:Cc}{j k:Nat}{f:Addr}{fd:FuncData}{ps:List Str}{sp:Sp}(F:dh P w K mg base CX j f fd ps sp)(h:j≤k) :
  dh P w K mg base CX k f fd ps sp:=⟨F.len,fun A outer s H args us vs Q E hr=>F.run A outer s H args us vs Q E (hr.mono h)⟩
theorem yX.make{P:Program}{w:World}{K:Frag}{mg:Str->Option Value}{base:Heap}{A:Around}{outer:List Env}{s:Shared}{H:Hp}(e:yX P w K mg base A outer s H)(C:Addr)(us:List Value)(kw:List (Str×Value)) :
  yX P w K mg base (A.under (.builtin "type.__call__" ⟨.ref C::us,kw⟩)) outer s H:=⟨by first | exact e.frames | (simpa [Around.under,Code.envs,Code.isFrame,pushEnvs] using e.frames),e.mod,e.bs,e.bsz,e.funs,e.frf,e.hok,e.bare⟩
section
variable{X:Cx}{pins:List (Addr×Obj)}{σ:St}{H:Hp}{s s':Shared}
theorem aM.env0(I:aM X pins σ H s):yX X.prog X.w X.K X.mg X.base X.A X.stack s H :=
 ⟨I.ok.frames,I.ok.mod,I.bs,Lh I.ok.bsz I.sz,I.stack,I.stkFree,I.hok,I.bare⟩
theorem aM.after{Q:VK}{u:Value}(I:aM X pins σ H s)(h:CE X.stack X.prog X.w H s Q u s'):EP X pins σ Q u s':=by
 obtain⟨v,H',os,bare,un,hok,r,q⟩:=h;obtain⟨hh,g,d,t,os'⟩:=s';obtain rfl:os'=s.os:=os;exact⟨v,H',I.call (h':=hh) (g':=g) (d':=d) (t':=t) (ch:=[]) un hok bare (fun b z=>absurd z (by simp)),r,q⟩
end
def jj(sp:Sp)(dvs:List V)(E:XK)(t:TA):TE:=fun σ H Q=>t σ H fun vs H1=>sp (vs++dvs) H1 Q E
inductive Da(C:Addr)(m:Str)(sp:Sp)(dvs:List V)(E:XK)(t:TA)(σ:L2.St)(Q:VK)(x:V)(H1:Hp):Prop
 | mk (a dx fs:_):x=.ref a->H1 a=some (.ins C dx fs)->fs.lookup m=none->(t σ H1 fun vs H2=>sp (x::(vs++dvs)) H2 Q E)->Da C m sp dvs E t σ Q x H1
def xx(C:Addr)(m:Str)(sp:Sp)(dvs:List V)(E:XK)(ta:TE)(t:TA):TE:=fun σ H Q=>ta σ H fun x H1=>Da C m sp dvs E t σ Q x H1
def A9(C:Addr)(sp:Sp)(dvs:List V)(E:XK)(t:TA):TE:=fun σ H Q=>t σ H fun vs H1=>∀x dx,H1 x=none->H1 dx=none->dx≠x →
 sp (.ref x::(vs++dvs)) (upd (upd H1 dx (.own x)) x (.ins C dx [])) (fun v H2=>v=.non∧Q (.ref x) H2) E
def d7(K:Frag)(fd:FuncData)(ps:List Str)(ds:List Value):Prop :=
 ∀(s:Shared)(us:List Value),K.In s.heap->(us++ds).length=ps.length->BindsTo s fd ⟨us,[]⟩ (ps.zip (us++ds))
theorem d7.all{K:Frag}{fd:FuncData}{ps:List Str}(h:∀us:List Value,us.length=ps.length->bindArgs fd ⟨us,[]⟩=pure (ps.zip us)):d7 K fd ps []:=fun s us _ hl=>by
 rw[Lp] at hl ⊢;exact .of_eq (h us hl)
def dC(CX:Cc)(X:Cx)(E:XK):Prop:=∀(pins:List (Addr×Obj))(σ:St)(H:Hp)(s:Shared)(e:Value)(s':Shared),aM X pins σ H s->CX X.stack H s E e s'->X.xe e s'
section
variable{X:Cx}{CX:Cc}{k:Nat}{f C:Addr}{fd:FuncData}{ps:List Str}{sp:Sp}{dvs:List V}{ds:List Value}{E:XK}{x m:Str}{p pos apos:Pos}{e o:Expr}{es:List Expr}{ta:TE}{t:TA}
theorem rR{pins:List (Addr×Obj)}{σ:St}{H:Hp}{s:Shared}{Q:VK}{us:List Value}{vs:List V}(F:dh X.prog X.w X.K X.mg X.base CX k f fd ps sp)(hr:cX k X.A)(hb:d7 X.K fd ps ds)(hd:b8 dvs ds)(hx:dC CX X E)
  (I:aM X pins σ H s)(r:b8 vs us)(h:sp (vs++dvs) H Q E):wpAny (model X.prog X.w) X.A (call (.ref f) us) (EP X pins σ Q) X.xe s:=by
 have r2:b8 (vs++dvs) (us++ds):=r.append hd;have hl:(us++ds).length=ps.length:=by rw[←r2.length];exact F.len _ _ _ _ h
 refine wpAny_call (codeAny_mono (F.run X.A X.stack s H ⟨us,[]⟩ (us++ds) (vs++dvs) Q E hr I.env0 (hb s us I.kIn hl) r2 h) fun r s' hq=>?_);cases r with
 | error e=>exact hx pins σ H s e s' I hq
 | ok fl =>
  cases fl with
  | ret u=>exact I.after hq
  | next=>exact False.elim hq
  | brk=>exact False.elim hq
  | cont=>exact False.elim hq
theorem EG(F:dh X.prog X.w X.K X.mg X.base CX k f fd ps sp)(hr:cX k X.A)(hg:Gl X x)(hm:X.mg x=some (.ref f))(hk:keepIn X.K (.ref f)=true)(hb:d7 X.K fd ps ds)(hd:b8 dvs ds)(hx:dC CX X E)
  (ha:PA X (e::es) t)(hdb:(x==("__debug__":Str))=false:=by decide)(he:starEach (e::es) X.env=(false,eval e X.env)::starEach es X.env:=by rfl)(hpl:(backTo pos (starEach es X.env)).any (·.1)=false:=by rfl) :
  PE X (.Call (.Name x p) (e::es) [] pos) (jj sp dvs E t):=by
 intro pins s σ H Q I h;refine wpAny_Call_Name_kw (kC I hg hm ?_ hdb);refine PySem.W.callWith_K (h₀:=X.base) I.ok.mod.kin hk (bE (ha pos pins s σ H _ I h) fun us s1 ⟨vs,H1,I1,r,q⟩=>⟨I1.kIn,?_⟩) he hpl;exact rR F hr hb hd hx I1 r q
theorem D8(F:dh X.prog X.w X.K X.mg X.base CX k f fd ps sp)(hr:cX k X.A)(hg:Gl X x)(hm:X.mg x=some (.ref f))(hk:keepIn X.K (.ref f)=true)(hb:d7 X.K fd ps ds)(hd:b8 dvs ds)(hx:dC CX X E)
  (hdb:(x==("__debug__":Str))=false:=by decide):PE X (.Call (.Name x p) [] [] pos) (jj sp dvs E gP):=by
 intro pins s σ H Q I h;refine wpAny_Call_Name_kw (kC I hg hm ?_ hdb);exact PySem.W.callWith_K0 I.kIn hk (rR (us:=[]) F hr hb hd hx I .nil h)
theorem Ft{pl:Sem Bool}(he:PE X o ta)(c:wN X.K C)(hm:DT X.K C m f)(F:dh X.prog X.w X.K X.mg X.base CX k f fd ps sp)(hr:cX k X.A)(hb:d7 X.K fd ps ds)(hd:b8 dvs ds)(hx:dC CX X E)(ha:PA X (e::es) t)
  (hst:starEach (e::es) X.env=(false,eval e X.env)::starEach es X.env:=by rfl)(hpl:(backTo pos (starEach es X.env)).any (·.1)=false:=by rfl)
  (ht:eval (.Call (.Attribute o m apos) (e::es) [] pos) X.env=(do
   let ov ←eval o X.env
   standAt apos.atName
   let (f,first) ←holding [ov] (getMethod ov m pl)
   callWith pos f first (backTo pos (starEach (e::es) X.env)) (backToKw pos (keywordEach [] X.env))):=by rfl) :
  PE X (.Call (.Attribute o m apos) (e::es) [] pos) (xx C m sp dvs E ta t):=by
 intro pins s σ H Q I h;refine PySem.W.methodCall_KW (pl:=pl) (bE (he pins s σ H _ I h) fun u s1 ⟨x,H1,I1,rx,a,dx,fs,ex,ea,l,q⟩=>?_) ht;subst ex;obtain rfl:u=Value.ref a:=rx;refine rX I1 ea c hm l ?_;refine PySem.W.callWith_K (first:=[.ref a]) (h₀:=X.base) I.ok.mod.kin hm.kp (bE (ha pos pins s1 σ H1 _ I1 q) fun us s2 ⟨vs,H2,I2,r,q2⟩=>⟨I2.kIn,?_⟩) hst hpl;exact rR (us:=.ref a::us) (vs:=.ref a::vs) F hr hb hd hx I2 (.cons rfl r) q2
theorem Es{pl:Sem Bool}(he:PE X o ta)(c:wN X.K C)(hm:DT X.K C m f)(F:dh X.prog X.w X.K X.mg X.base CX k f fd ps sp)(hr:cX k X.A)(hb:d7 X.K fd ps ds)(hd:b8 dvs ds)(hx:dC CX X E)
  (ht:eval (.Call (.Attribute o m apos) [] [] pos) X.env=(do
   let ov ←eval o X.env
   standAt apos.atName
   let (f,first) ←holding [ov] (getMethod ov m pl)
   callWith pos f first (backTo pos (starEach [] X.env)) (backToKw pos (keywordEach [] X.env))):=by rfl) :
  PE X (.Call (.Attribute o m apos) [] [] pos) (xx C m sp dvs E ta gP):=by
 intro pins s σ H Q I h;refine PySem.W.methodCall_KW (pl:=pl) (bE (he pins s σ H _ I h) fun u s1 ⟨x,H1,I1,rx,a,dx,fs,ex,ea,l,q⟩=>?_) ht;subst ex;obtain rfl:u=Value.ref a:=rx;refine rX I1 ea c hm l ?_;exact PySem.W.callWith_K0 (first:=[.ref a]) I1.kIn hm.kp (rR (us:=[.ref a]) (vs:=[.ref a]) F hr hb hd hx I1 (.cons rfl .nil) q)
structure Mk(K:Frag)(C f:Addr):Prop where
 makes:makesIn K C=true
 init:findIn K (.ref C) "__init__"=some (some (.ref f))
 fn:isFn K (.ref f)=true
 kp:keepIn K (.ref C)=true
theorem wI{pins:List (Addr×Obj)}{σ:St}{H:Hp}{s:Shared}{Q:VK}{us:List Value}{vs:List V}(M:Mk X.K C f)(F:dh X.prog X.w X.K X.mg X.base CX k f fd ps sp)(hr:cX (k+1) X.A)(hb:d7 X.K fd ps ds)(hd:b8 dvs ds)
  (hx:dC CX X E)(I:aM X pins σ H s)(r:b8 vs us)
  (h:∀x dx,H x=none->H dx=none->dx≠x->sp (.ref x::(vs++dvs)) (upd (upd H dx (.own x)) x (.ins C dx [])) (fun v H2=>v=.non∧Q (.ref x) H2) E) :
  wpAny (model X.prog X.w) X.A (call (.ref C) us) (EP X pins σ Q) X.xe s:=by
 have hq:=h (s.heap.objs.size+1) s.heap.objs.size (I.hok.fresh (Nat.le_succ _)) (I.hok.fresh (KG _)) (Lj (LO _));have I2:=aM.made (C:=C) I;have r2:b8 (V.ref (s.heap.objs.size+1)::(vs++dvs)) (Value.ref (s.heap.objs.size+1)::(us++ds)):=.cons rfl (r.append hd)
 have hl:(Value.ref (s.heap.objs.size+1)::us++ds).length=ps.length:=by
  have e:=r2.length;rw[F.len _ _ _ _ hq] at e;exact e.symm
 refine wpAny_call (CD (f:=f) I.kIn M.makes M.init (beq_iff_eq.mp M.fn) (codeAny_mono (F.run _ X.stack _ _ ⟨Value.ref (s.heap.objs.size+1)::us,[]⟩ (Value.ref (s.heap.objs.size+1)::(us++ds)) _ _ E (hr.make C us [])
  (I2.env0.make C us []) (hb _ (Value.ref (s.heap.objs.size+1)::us) I2.kIn hl) r2 hq) fun r s' hq'=>?_))
 cases r with
 | error e=>exact hx pins σ _ _ e s' I2 hq'
 | ok fl =>
  cases fl with
  | ret u =>
   obtain⟨v,H',I3,rv,ev,q3⟩:=I2.after hq';subst ev;exact⟨rv,⟨V.ref (s.heap.objs.size+1),H',I3,rfl,q3⟩⟩
  | next=>exact False.elim hq'
  | brk=>exact False.elim hq'
  | cont=>exact False.elim hq'
theorem iL(M:Mk X.K C f)(F:dh X.prog X.w X.K X.mg X.base CX k f fd ps sp)(hr:cX (k+1) X.A)(hg:Gl X x)(hm:X.mg x=some (.ref C))(hb:d7 X.K fd ps ds)(hd:b8 dvs ds)(hx:dC CX X E)
  (ha:PA X (e::es) t)(hdb:(x==("__debug__":Str))=false:=by decide)(he:starEach (e::es) X.env=(false,eval e X.env)::starEach es X.env:=by rfl)(hpl:(backTo pos (starEach es X.env)).any (·.1)=false:=by rfl) :
  PE X (.Call (.Name x p) (e::es) [] pos) (A9 C sp dvs E t):=by
 intro pins s σ H Q I h;refine wpAny_Call_Name_kw (kC I hg hm ?_ hdb);refine PySem.W.callWith_K (h₀:=X.base) I.ok.mod.kin M.kp (bE (ha pos pins s σ H _ I h) fun us s1 ⟨vs,H1,I1,r,q⟩=>⟨I1.kIn,?_⟩) he hpl;exact wI M F hr hb hd hx I1 r q
theorem CI(M:Mk X.K C f)(F:dh X.prog X.w X.K X.mg X.base CX k f fd ps sp)(hr:cX (k+1) X.A)(hg:Gl X x)(hm:X.mg x=some (.ref C))(hb:d7 X.K fd ps ds)(hd:b8 dvs ds)(hx:dC CX X E)
  (hdb:(x==("__debug__":Str))=false:=by decide):PE X (.Call (.Name x p) [] [] pos) (A9 C sp dvs E gP):=by
 intro pins s σ H Q I h;refine wpAny_Call_Name_kw (kC I hg hm ?_ hdb);exact PySem.W.callWith_K0 I.kIn M.kp (wI (us:=[]) M F hr hb hd hx I .nil h)
end
def PK(X:Cx)(kws:List Keyword)(t:TA):Prop :=
 ∀(pos:Pos)(pins:List (Addr×Obj))(s:Shared)(σ:St)(H:Hp)(Q:List V->Hp->Prop),aM X pins σ H s->t σ H Q->wpAny (model X.prog X.w) X.A (evalAll ((backToKw pos (keywordEach kws X.env)).map (·.2))) (AP X pins σ Q) X.xe s
structure az(N P:List Str)(sc:Scope):Prop where
 kind:sc.kind=.function
 co:sc.isCoroutine=false
 gen:sc.isGenerator=false
 nd:N.Nodup
 pre:N.take P.length=P
 par:∀x∈P,sc.names.lookup x=some .local∨sc.names.lookup x=some .cell
 nofree:∀y∈sc.names,y.2≠.free
theorem tL{kindOf:Str->Option NameKind}{x:Str}:∀{binds:List (Str×Value)}{m:Str->Option Value},(∀v,(x,v)∉binds)->bindL kindOf binds m x=m x
 | [],_,_=>rfl
 | (n,v)::r,m,h=>by
  unfold bindL;rw[tL fun w hw=>h w (KH _ hw)]
  split
  ·have:x≠n:=by rintro rfl;exact h v KJ
   simp[this]
  ·rfl
theorem tD{kindOf:Str->Option NameKind}{x:Str}:∀{binds:List (Str×Value)}{m:Str->Option Value},(∀v,(x,v)∉binds)->bindC kindOf binds m x=m x
 | [],_,_=>rfl
 | (n,v)::r,m,h=>by
  unfold bindC;rw[tD fun w hw=>h w (KH _ hw)]
  split
  ·rfl
  ·have:x≠n:=by rintro rfl;exact h v KJ
   simp[this]
theorem tV{kindOf:Str->Option NameKind}{x:Str}{v:Value}:∀{P:List Str}{vs:List Value}{i:Nat}{m:Str->Option Value},P.Nodup->P[i]?=some x->vs[i]?=some v->kindOf x=some .local →
  bindL kindOf (P.zip vs) m x=some v
 | [],_,_,_,_,h,_,_=>by simp at h
 | _::_,[],_,_,_,_,h,_=>by simp at h
 | p::P,w::vs,0,m,nd,h1,h2,hk=>by
  simp at h1 h2;subst h1;subst h2;show bindL kindOf ((p,w)::P.zip vs) m p=_;unfold bindL;rw[tL fun v hv=>(List.nodup_cons.mp nd).1 (List.of_mem_zip hv).1,if_pos hk];simp
 | p::P,w::vs,i+1,m,nd,h1,h2,hk=>by
  show bindL kindOf ((p,w)::P.zip vs) m x=_;unfold bindL;exact tV (i:=i) (List.nodup_cons.mp nd).2 (by simpa using h1) (by simpa using h2) hk
theorem tK{kindOf:Str->Option NameKind}{x:Str}{v:Value}:∀{P:List Str}{vs:List Value}{i:Nat}{m:Str->Option Value},P.Nodup->P[i]?=some x->vs[i]?=some v->kindOf x≠some .local →
  bindC kindOf (P.zip vs) m x=some v
 | [],_,_,_,_,h,_,_=>by simp at h
 | _::_,[],_,_,_,_,h,_=>by simp at h
 | p::P,w::vs,0,m,nd,h1,h2,hk=>by
  simp at h1 h2;subst h1;subst h2;show bindC kindOf ((p,w)::P.zip vs) m p=_;unfold bindC;rw[tD fun v hv=>(List.nodup_cons.mp nd).1 (List.of_mem_zip hv).1,if_neg hk];simp
 | p::P,w::vs,i+1,m,nd,h1,h2,hk=>by
  show bindC kindOf ((p,w)::P.zip vs) m x=_;unfold bindC;exact tK (i:=i) (List.nodup_cons.mp nd).2 (by simpa using h1) (by simpa using h2) hk
def start(N:List Str)(vs:List V):St:=vs.map some++List.replicate (N.length - vs.length) none
def oy(CX:Cc)(P:Program)(w:World)(K:Frag)(mg:Str->Option Value)(base:Heap)(N:List Str)(qual:Str)(scope:Scope)(f:Addr)(cd:Value)(A:Around)(outer:List Env)(s:Shared)(H:Hp)(E:XK):Cx where
 prog:=P
 w:=w
 K:=K
 mg:=mg
 base:=base
 A:=A.deeper (envOfC qual scope s.heap.objs.size f cd)
 N:=N
 s_0:=s
 H_0:=H
 env:=envOfC qual scope s.heap.objs.size f cd
 outer:=outer
 stack:=envOfC qual scope s.heap.objs.size f cd::outer
 ex:=[]
 calm:=true
 fn:=fun _=>true
 pn:=[]
 xe:=fun e s'=>wpAny (model P w) (A.deeper (envOfC qual scope s.heap.objs.size f cd)) (leaving (envOfC qual scope s.heap.objs.size f cd) e) (fun _ s''=>CX outer H s E e s'') (fun e' s''=>CX outer H s E e' s'') s'
theorem wY{sc:Scope}{n:Nat}{x:Str}(h:sc.names.lookup x=some .cell):∃c,(cellsFrom n sc.names []).lookup x=some c:=by
 have q:=PySem.W.cellsFrom_some sc.names n [] (.inl h);exact Option.isSome_iff_exists.mp q
theorem AV{CX:Cc}{P:Program}{w:World}{K:Frag}{mg:Str->Option Value}{base:Heap}{N ps:List Str}{qual:Str}{scope:Scope}{f:Addr}{cd:Value}{A:Around}{outer:List Env}{s s1:Shared}{H:Hp}{E:XK}{us:List Value}{vs:List V}
  (S:az N ps scope)(hd:A.handled=none)(e0:yX P w K mg base A outer s H)(hl:vs.length=ps.length)(r:b8 vs us)
  (x:InCallC s s.heap.objs.size (bindL (envOfC qual scope s.heap.objs.size f cd).kindOf (ps.zip us) fun _=>none) (cellsFrom (s.heap.objs.size+1) scope.names []) (bindC (envOfC qual scope s.heap.objs.size f cd).kindOf (ps.zip us) fun _=>none) s1) :
  aM (oy CX P w K mg base N qual scope f cd A outer s H E) [] (start N vs) H s1:=by
 have hpl:ps.length≤N.length:=by have:=congrArg List.length S.pre;rw[L9] at this;omega
 obtain⟨h1,tk,rfl,hk⟩:=x.done;have noA:∀b:Addr,b∉(oy CX P w K mg base N qual scope f cd A outer s H E).ex:=fun b z=>absurd (show b∈([]:List Addr) from z) (by simp)
 refine⟨⟨e0.mod,S.kind,rfl,rfl,KG _,fun y z c h1 h2=>?_,fun y hy=>?_,fun y c _ h=>?_,fun _=>hd,Around.frames_deeper e0.frames,.inr ⟨rfl,rfl⟩,fun b z=>absurd z (noA b),e0.bs,e0.bsz,fun b _ _=>noA b,fun b z=>absurd z (noA b),e0.funs,e0.frf⟩,
  rfl,e0.bare,Un.kept hk,⟨_,x.toInCall.ns,fun i y v h1 h2 h3=>?_⟩,fun y c h=>⟨_,x.cell y c h⟩,e0.hok.fresh (KG _),fun y c h=>?_,fun p hp=>absurd (show p∈([]:List (Addr×Obj)) from hp) (by simp),e0.hok.kept hk,?_⟩
 ·exact name_of_addr x.apart (PySem.mem_of_lookup h1) (PySem.mem_of_lookup h2)
 ·have hy:scope.names.lookup y=some .cell∨scope.names.lookup y=some .free:=hy;rcases hy with hy | hy
  ·exact wY hy
  ·exact absurd rfl (S.nofree _ (PySem.mem_of_lookup hy))
 ·exact LR (x.above y c (PySem.mem_of_lookup h))
 ·have hi:i < vs.length:=by
   unfold start at h2
   by_cases hi:i < vs.length
   ·exact hi
   ·rw[Le (by simpa using hi)] at h2
    rw[List.getElem?_replicate] at h2
    split at h2<;>cases h2
  have ha:vs[i]?=some v:=by
   unfold start at h2;rw[Lf (by simpa using hi),Kw] at h2
   cases e:vs[i]? with
   | none=>rw[e] at h2;cases h2
   | some a=>rw[e] at h2;cases h2;rfl
  obtain⟨u,hu,rv⟩:=r.get ha
  have hp:ps[i]?=some y:=by
   rw[←S.pre,List.getElem?_take_of_lt (by omega)];exact h1
  have ndP:ps.Nodup:=by rw[←S.pre];exact S.nd.sublist (List.take_sublist _ _)
  refine⟨u,rv,?_⟩;rcases S.par y (KA hp) with k | k
  ·exact .inl ⟨k,tV ndP hp hu k⟩
  ·obtain⟨c,e⟩:=wY (n:=s.heap.objs.size+1) k;refine .inr ⟨.inl k,c,e,?_⟩;have q:=x.cell y c e;rw[tK ndP hp hu (by show scope.names.lookup y≠_;rw[k];decide)] at q
   exact q
 ·exact e0.hok.fresh (LR (x.above y c (PySem.mem_of_lookup h)))
 ·unfold start;show _=N.length;rw[Ky,Kv,List.length_replicate];omega
theorem Gd{CX:Cc}{P:Program}{w:World}{K:Frag}{mg:Str->Option Value}{base:Heap}{k:Nat}{f:Addr}{name qual:Str}{params:Arguments}{body:List Stmt}{scope:Scope}{dV kV doc pm cdv ct oc:Value}{an od:Option Addr}
  {osl:Array (Option Value)}{N ps:List Str}{sp:Sp}(lk:K.lookup f=some ⟨oc,od,.func (fnOf name qual params body scope dV kV doc pm an cdv ct),osl⟩)(hcd:codeIn K cdv qual=true)(S:az N ps scope)
  (len:∀vs H Q E,sp vs H Q E->vs.length=ps.length)
  (hbody:∀(A:Around) (outer:List Env) (s:Shared) (H:Hp) (vs:List V) (Q:VK) (E:XK),cX k (A.deeper (envOfC qual scope s.heap.objs.size f cdv))->sp vs H Q E →
   ∃t,yc (oy CX P w K mg base N qual scope f cdv A outer s H E) body t∧t {nx:=fun _ H'=>Q .non H',rt:=Q} (start N vs) H) :
  dh P w K mg base CX (k+1) f (fnOf name qual params body scope dV kV doc pm an cdv ct) ps sp:=by
 refine⟨len,fun A outer s H args us vs Q E hr e0 hb r hsp=>?_⟩;have hl:=len _ _ _ _ hsp;have KX:K.In s.heap:=e0.mod.kin.keeps fun b o e=>(e0.bs b o e).1;have lim:s.heap.NoLimit:=e0.mod.nolimit.keeps fun b o e=>(e0.bs b o e).1
 have hkind:∀y∈ps.zip us,scope.names.lookup y.1=some .local∨(scope.names.lookup y.1=some .cell∧((cellsFrom (s.heap.objs.size+1) scope.names []).lookup y.1).isSome=true):=fun⟨n,v⟩ hy=>by
  rcases S.par n (List.of_mem_zip hy).1 with q | q
  ·exact .inl q
  ·exact .inr ⟨q,PySem.W.cellsFrom_some _ _ _ (.inl q)⟩
 refine codeAny_call_function hr.depth (KX _ _ lk) rfl S.co S.gen rfl (PySem.W.codeRec_of KX hcd) (hb _ _ _ _ ?_);refine wpAny_newFunctionEnv_cells S.kind hkind fun env he s1 x=>?_;subst he;refine⟨lim.keeps x.toInCall.keep,codeAny_func ?_⟩;obtain⟨t,ht,hq⟩:=hbody A outer s H vs Q E (hr.deeper _) hsp;have I:aM (oy CX P w K mg base N qual scope f cdv A outer s H E) [] (start N vs) H s1:=AV S hr.hd e0 hl r x;refine wpAny_mono (ht [] s1 (start N vs) H _ I hq) (fun fl s' hs=>?_) fun e s' hs=>hs
 have fin:∀{σ':St}{H':Hp}{v:V}{u:Value},aM (oy CX P w K mg base N qual scope f cdv A outer s H E) [] σ' H' s'->bg v u->Q v H'->CE outer P w H s Q u s' :=
  fun{σ' H' v u} J rv q=>⟨v,H',J.os,J.bare,J.base,J.hok,rv,q⟩
 cases fl with
 | ret u =>
  obtain⟨v,σ',H',J,rv,q⟩:=hs;exact fin J rv q
 | next =>
  obtain⟨σ',H',J,q⟩:=hs;exact fin (v:=V.non) (u:=Value.none) J rfl q
 | brk =>
  obtain⟨_,_,_,q⟩:=hs;exact False.elim q
 | cont =>
  obtain⟨_,_,_,q⟩:=hs;exact False.elim q
section
variable{X:Cx}{x:Str}{p pos:Pos}{e:Expr}{es:List Expr}{t:TA}{id T:String}{r:List V->Hp->VK->Prop}
def Jb(r:List V->Hp->VK->Prop)(t:TA):TE:=fun σ H Q=>t σ H fun vs H1=>r vs H1 Q
theorem aQ(hc:eN X (.builtin id) r)(hg:Gl X x)(hm:X.mg x=none)(hv:bootBuiltins x=some (.builtin id))(ha:PA X (e::es) t)(hn:x≠"__name__":=by decide)(hdb:(x==("__debug__":Str))=false:=by decide)
  (he:starEach (e::es) X.env=(false,eval e X.env)::starEach es X.env:=by rfl)(hpl:(backTo pos (starEach es X.env)).any (·.1)=false:=by rfl):PE X (.Call (.Name x p) (e::es) [] pos) (Jb r t):=by
 intro pins s σ H Q I h;refine wpAny_Call_Name_kw (iI I hg hm hv ?_ hn hdb);exact PyProof.Rows.callWith_builtin1 (bE (ha pos pins s σ H _ I h) fun us s1 ⟨vs,H1,I1,r1,q1⟩=>hc pins s1 σ H1 vs us Q I1 r1 q1) he hpl
theorem ij(hc:eN X (.type T) r)(hg:Gl X x)(hm:X.mg x=none)(hv:bootBuiltins x=some (.type T))(ha:PA X (e::es) t)(hn:x≠"__name__":=by decide)(hdb:(x==("__debug__":Str))=false:=by decide)
  (he:starEach (e::es) X.env=(false,eval e X.env)::starEach es X.env:=by rfl)(hpl:(backTo pos (starEach es X.env)).any (·.1)=false:=by rfl):PE X (.Call (.Name x p) (e::es) [] pos) (Jb r t):=by
 intro pins s σ H Q I h;refine wpAny_Call_Name_kw (iI I hg hm hv ?_ hn hdb);exact PyProof.Rows.callWith_type1 (bE (ha pos pins s σ H _ I h) fun us s1 ⟨vs,H1,I1,r1,q1⟩=>hc pins s1 σ H1 vs us Q I1 r1 q1) he hpl
end
end L2
namespace HT
open PySem PyProof.Rows
section
variable{prog:Program}{w:World}{A:Around}{E:Value->Shared->Prop}{s:Shared}
def vn(n d:Nat):Option Int->Nat
 | none=>d
 | some v=>if v < 0 then(v+(n:Int)).toNat else min v.toNat n
theorem A2(n d k:Nat):vn n d (some (k:Int))=min k n:=by
 show(if(k:Int) < 0 then((k:Int)+(n:Int)).toNat else min (k:Int).toNat n)=min k n;rw[if_neg (by omega),Lk]
end
end HT
namespace L2
open PySem PySem.Spec PyProof.Rows
abbrev TO:=St->Hp->(Option Int->Hp->Prop)->Prop
def PO(X:Cx)(e:Option Expr)(t:TO):Prop :=
 ∀(pins:List (Addr×Obj))(s:Shared)(σ:St)(H:Hp)(Q:Option Int->Hp->Prop),aM X pins σ H s->t σ H Q →
  wpAny (model X.prog X.w) X.A (evalPart e X.env) (fun u s'=>∃o H',aM X pins σ H' s'∧IsPart u o∧Q o H') X.xe s
def EI:TO:=fun _ H Q=>Q none H
inductive CZ(Q:Option Int->Hp->Prop)(x:V)(H1:Hp):Prop
 | mk (i:_):x=.int i->Q (some i) H1->CZ Q x H1
def HQ(t:TE):TO:=fun σ H Q=>t σ H fun x H1=>CZ Q x H1
section
variable{X:Cx}{e:Expr}{te:TE}{lo hi:Option Expr}{tl th:TO}{pos p2:Pos}
theorem AB:PO X none EI:=by
 intro pins s σ H Q I h;rw[evalPart_none];exact wpAny_pure ⟨none,H,I,.none,h⟩
theorem pP(h:PE X e te):PO X (some e) (HQ te):=by
 intro pins s σ H Q I hw;rw[evalPart_some];refine bE (h pins s σ H _ I hw) fun u s1 ⟨x,H1,I1,r1,q1⟩=>?_;obtain⟨i,rfl,q⟩:=q1;obtain⟨t,rfl⟩:=r1;exact⟨some i,H1,I1,.int i t,q⟩
def K9(X:Cx)(r:V->Option Int->Option Int->Hp->VK->Prop):Prop :=
 ∀(pins:List (Addr×Obj))(s:Shared)(σ:St)(H:Hp)(x:V)(v vl vu:Value)(lo hi:Option Int)(sl:Addr)(Q:VK),aM X pins σ H s->bg x v->s.heap.IsSliceOf sl vl vu .none->IsPart vl lo->IsPart vu hi->r x lo hi H Q →
  ∃T id,typeLookup (.type T) "__getitem__"=pure (some (.builtin id))∧s.TypeIs v T∧wpAny (model X.prog X.w) X.A (getItem v (.ref sl)) (EP X pins σ Q) X.xe s
def Km(r:V->Option Int->Option Int->Hp->VK->Prop)(te:TE)(tl th:TO):TE:=fun σ H Q=>te σ H fun x H1=>tl σ H1 fun l H2=>th σ H2 fun u H3=>r x l u H3 Q
theorem rL{r:V->Option Int->Option Int->Hp->VK->Prop}(hr:K9 X r)(he:PE X e te)(hl:PO X lo tl)(hu:PO X hi th):PE X (.Subscript e (.Slice lo hi none p2) pos) (Km r te tl th):=by
 intro pins s σ H Q I h;refine Subscript_ (bE (he pins s σ H _ I h) fun v s1 ⟨x,H1,I1,r1,q1⟩=>?_);refine wpAny_Slice (bE (hl pins s1 σ H1 _ I1 q1) fun vl s2 ⟨l,H2,I2,pl,q2⟩=>bE (hu pins s2 σ H2 _ I2 q2) fun vu s3 ⟨u,H3,I3,pu,q3⟩=>?_);rw[evalPart_none];refine wpAny_pure ?_;have I4:aM X pins σ H3 {s3 with heap:=s3.heap.push {cls:=.type "slice",data:=.fields #[vl,vu,.none]}}:=I3.kept (t':=s3.toks) fun b ob q=>KB _ q
 obtain⟨T,id,hT,ht,hg⟩:=hr pins {s3 with heap:=s3.heap.push {cls:=.type "slice",data:=.fields #[vl,vu,.none]}} σ H3 x v vl vu l u s3.heap.objs.size Q I4 r1 (Heap.IsSliceOf.new ..) pl pu q3
 show wpAny (model X.prog X.w) X.A (subscriptTail e (.Slice lo hi none p2) v (.ref s3.heap.objs.size)) (EP X pins σ Q) X.xe {s3 with heap:=s3.heap.push {cls:=.type "slice",data:=.fields #[vl,vu,.none]}}
 exact tail_any (ops:=[.ref s3.heap.objs.size,v]) ht hT hg (by with_unfolding_all rfl)
def xB(xs:List V)(lo hi:Option Int):List V:=(xs.drop (HT.vn xs.length 0 lo)).take (HT.vn xs.length xs.length hi - HT.vn xs.length 0 lo)
theorem x9(xs:List V)(lo hi:Option Int):(xB xs lo hi).length≤xs.length:=by
 unfold xB;rw[L9,List.length_drop];omega
end
def Ef(n:Nat)(i:Int):Option Nat:=if 0≤i then(if i < n then some i.toNat else none) else if -(n:Int)≤i then some (i+n).toNat else none
def yb{α:Type}(xs:List α)(i:Int):Option α:=(Ef xs.length i).bind fun j=>xs[j]?
theorem zW{n:Nat}{i:Int}{j:Nat}(h:Ef n i=some j):seqIndex? i n=some j∧j < n∧-(n:Int)≤i∧i < n:=by
 unfold Ef at h
 by_cases h0:0≤i
 ·rw[if_pos h0] at h
  by_cases h1:i < n
  ·rw[if_pos h1] at h;have e:i.toNat=j:=LS h;exact⟨by rw[seqIndex_of h0 h1,e],by omega,by omega,h1⟩
  ·rw[if_neg h1] at h;cases h
 ·rw[if_neg h0] at h
  by_cases h1:-(n:Int)≤i
  ·rw[if_pos h1] at h;have e:(i+n).toNat=j:=LS h;exact⟨by rw[seqIndex_neg (by omega) h1,e],by omega,h1,by omega⟩
  ·rw[if_neg h1] at h;cases h
theorem EM{α:Type}{xs:List α}{i:Int}{v:α}(h:yb xs i=some v):∃j,seqIndex? i xs.length=some j∧xs[j]?=some v∧j < xs.length∧-(xs.length:Int)≤i∧i < xs.length:=by
 unfold yb at h;cases e:Ef xs.length i with
 | none=>rw[e] at h;cases h
 | some j =>
  rw[e] at h;obtain⟨h1,h2,h3,h4⟩:=zW e;exact⟨j,h1,h,h2,h3,h4⟩
theorem d9{α:Type}{xs:List α}{j:Nat}{v:α}(h:xs[j]?=some v):yb xs (j:Int)=some v:=by
 have hj:j < xs.length:=(KQ.mp h).1
 have e:Ef xs.length (j:Int)=some j:=by
  unfold Ef;rw[if_pos (by omega),if_pos (by omega)];simp
 unfold yb;rw[e];exact h
theorem jM{α:Type}(xs:List α)(v:α):yb (xs++[v]) (-1)=some v:=by
 have hl:(xs++[v]).length=xs.length+1:=by simp
 have e:Ef (xs++[v]).length (-1)=some xs.length:=by
  unfold Ef;rw[hl,if_neg (by decide),if_pos (by omega)]
  congr 1
  omega
 unfold yb;rw[e];show(xs++[v])[xs.length]?=some v;simp
def Fu(b:Expr):Prop:=∀o i,subscripted b false o i=operate [o,i] (getItem o i)
def Kb(X:Cx)(r:R2):Prop :=
 ∀(value slice:Expr)(pins:List (Addr×Obj))(s:Shared)(σ:St)(H:Hp)(x y:V)(v u:Value)(Q:VK),aM X pins σ H s->bg x v->bg y u->r x y H Q →
  subscripted slice false v u=operate [v,u] (getItem v u)->wpAny (model X.prog X.w) X.A (subscriptTail value slice v u) (EP X pins σ Q) X.xe s
def Gi(X:Cx)(id:String)(r:V->List V->Hp->VK->Prop):Prop :=
 ∀(pins:List (Addr×Obj))(s:Shared)(σ:St)(H:Hp)(x:V)(xs:List V)(v:Value)(us:List Value)(Q:VK),aM X pins σ H s->bg x v->b8 xs us->r x xs H Q →
  wpAny (model X.prog X.w) X.A (call (.builtin id) (v::us)) (EP X pins σ Q) X.xe s
section
variable{X:Cx}{a b:Expr}{ta tb:TE}{pos:Pos}
theorem aY{r:R2}(hr:Kb X r)(ha:PE X a ta)(hb:PE X b tb)(hs:Fu b):PE X (.Subscript a b pos) (zj r ta tb):=by
 intro pins s σ H Q I h;exact Subscript_ (GG ha hb I h fun v u s2 x y H2 I2 rx ry q=>hr a b pins s2 σ H2 x y v u Q I2 rx ry q (hs _ _))
inductive uB(K:Frag)(x:V)(y:V)(H:Hp)(Q:VK):Prop
 | mk (p xs i v:_):x=.ref p->y=.int i->aH K H p xs->yb xs i=some v->Q v H->uB K x y H Q
theorem aF:Kb X (uB X.K):=by
 intro value slice pins s σ H x y v u Q I rx ry h hs;obtain⟨p,xs,i,z,rfl,rfl,hq,he,q⟩:=h;cases rx;obtain⟨t,rfl⟩:=ry;obtain⟨its,r,pl,hz⟩:=I.list hq;obtain⟨j,h1,h2,h3,h4,h5⟩:=EM he;obtain⟨w,ew,rw'⟩:=r.get h2;have hl:=r.length;have hn:=vt;have fin:EP X pins σ Q w s:=⟨z,H,I,rw',q⟩
 by_cases h0:0≤i
 ·have hj:i.toNat=j:=by
   rw[seqIndex_of h0 h5] at h1;exact LS h1
  exact item_listR pl.isList h0 (by omega) (by rw[hj];simpa using ew) fin hs
 ·have hj:(i+(its.toArray.size:Int)).toNat=j:=by
   rw[seqIndex_neg (by omega) h4] at h1
   rw[KW,←hl];exact LS h1
  exact subscriptTail_builtinR (x:=w) pl.isList.typeIs slot_list_getitem.lookup
   (wpAny_getItem_list_neg (Q:=fun r s'=>r=w∧EP X pins σ Q r s') pl.isList (by omega) (by rw[KW]<;>omega) (by omega) (by rw[hj];simpa using ew) ⟨rfl,fin⟩) hs
theorem yA(its:List Value)(n j:Nat)(u:Value):Obj.mapSeq (·.setIfInBounds j u) {cls:=.type "list",data:=.seq its.toArray n}={cls:=.type "list",data:=.seq (its.set j u).toArray n}:=by
 simp[Obj.mapSeq]
theorem aM.lst{pins:List (Addr×Obj)}{σ:St}{H:Hp}{s:Shared}{p:Addr}{xs:List V}(I:aM X pins σ H s)(h:H p=some (.lst xs)) :
  ∃(its:List Value)(n:Nat),b8 xs its∧s.heap.get? p=some {cls:=.type "list",data:=.seq its.toArray n}∧xs.length≤sizeLine:=by
 obtain⟨z,its,n,r,e⟩:=I.hok p _ h;exact⟨its,n,r,e,z⟩
theorem aM.lstUpd{pins:List (Addr×Obj)}{σ:St}{H:Hp}{s:Shared}{p:Addr}{xs ys:List V}{its its':List Value}{n n':Nat}{f:Obj->Obj}(I:aM X pins σ H s)(h:H p=some (.lst xs))
  (ho:s.heap.get? p=some {cls:=.type "list",data:=.seq its.toArray n})(hf:f {cls:=.type "list",data:=.seq its.toArray n}={cls:=.type "list",data:=.seq its'.toArray n'})(r:b8 ys its')(hz:ys.length≤sizeLine)(t:Nat) :
  aM X pins σ (upd H p (.lst ys)) {s with heap:=s.heap.update p f,toks:=t}:=by
 have e:(s.heap.update p f).get? p=some {cls:=.type "list",data:=.seq its'.toArray n'}:=by
  rw[Lw f ho (by rw[hf]<;>rfl),hf]
 refine I.write (x:=p) (e:=p) (by rw[h];trivial) (.inl rfl) (fun b u hb q=>(Lv _ _ (Ne.symm hb)).trans q) ⟨_,e⟩ ?_
 exact⟨hz,its',n',r,e⟩
inductive FX(o:V)(i:V)(v:V)(H:Hp)(Q:(Hp->Prop)):Prop
 | mk (p xs k j:_):o=.ref p->i=.int k->H p=some (.lst xs)->Ef xs.length k=some j->Q (upd H p (.lst (xs.set j v)))->FX o i v H Q
theorem qz:HY X FX:=by
 intro pins s σ H o i v ov iv u Q I ro ri rv h;obtain⟨p,xs,k,j,rfl,rfl,hp,hj,q⟩:=h;cases ro;obtain⟨t,rfl⟩:=ri;obtain⟨its,n,r,ho,hz⟩:=I.lst hp;obtain⟨h1,h2,h3,h4⟩:=zW hj;have hl:=r.length;have hn:=vt
 have I':aM X pins σ (upd H p (.lst (xs.set j v))) {s with heap:=s.heap.update p (Obj.mapSeq (·.setIfInBounds j u))} :=
  I.lstUpd hp ho (yA its n j u) (r.set rv j) (by rw[LB];exact hz) s.toks
 by_cases h0:0≤k
 ·have hk:k.toNat=j:=by
   rw[seqIndex_of h0 h4] at h1;exact LS h1
  exact PySem.W.ki_setAt ho h0 (by omega) (by rw[KW,←hl];exact h4) (by rw[hk];exact⟨_,I',q⟩)
 ·have hk:(k+(its.toArray.size:Int)).toNat=j:=by
   rw[seqIndex_neg (by omega) h3] at h1
   rw[KW,←hl];exact LS h1
  exact PySem.W.ki_setBack ho (by omega) (by rw[KW,←hl];exact h3) (by omega) (by rw[hk];exact⟨_,I',q⟩)
theorem uJ(lo hi:Option Int)(n:Nat):(sliceBounds lo hi none n).1=((HT.vn n 0 lo:Nat):Int)∧(sliceBounds lo hi none n).2.1=((HT.vn n n hi:Nat):Int)∧(sliceBounds lo hi none n).2.2=1:=by
 refine⟨?_,?_,rfl⟩
 ·cases lo with
  | none=>simp[sliceBounds,HT.vn]
  | some i =>
   simp only[sliceBounds,HT.vn,Option.getD_none,show(1:Int) > 0 by decide,if_true]
   by_cases h:i < 0
   ·simp only[h,if_true]<;>omega
   ·simp only[h,if_false]<;>omega
 ·cases hi with
  | none=>simp[sliceBounds,HT.vn]
  | some i =>
   simp only[sliceBounds,HT.vn,Option.getD_none,show(1:Int) > 0 by decide,if_true]
   by_cases h:i < 0
   ·simp only[h,if_true]<;>omega
   ·simp only[h,if_false]<;>omega
theorem sH(its:List Value)(lo hi:Option Int):slicePick its.toArray lo hi none=((its.drop (HT.vn its.length 0 lo)).take (HT.vn its.length its.length hi - HT.vn its.length 0 lo)).toArray:=by
 obtain⟨h1,h2,h3⟩:=uJ lo hi its.toArray.size;unfold slicePick;rw[h1,h2,h3];simp only[sliceRange_one,pick_run,KW]<;>rfl
inductive I0(K:Frag)(x:V)(lo:Option Int)(hi:Option Int)(H:Hp)(Q:VK):Prop
 | mk (a xs:_):x=.ref a->aH K H a xs->(∀p,H p=none->Q (.ref p) (upd H p (.lst (xB xs lo hi))))->I0 K x lo hi H Q
theorem vP:K9 X (I0 X.K):=by
 intro pins s σ H x v vl vu lo hi sl Q I rx hs pl pu h;obtain⟨a,xs,rfl,hx,q⟩:=h;cases rx;obtain⟨its,r,ht,hz⟩:=I.list hx;have hlen:=r.length;refine⟨"list",_,slot_list_getitem.lookup,ht.isList.typeIs,?_⟩;refine wpAny_getItem_list_slice ht.isList hs pl pu .none (by simp) ?_ (by rw[KW]<;>omega)
 rw[sH,←hlen];refine⟨.ref s.heap.objs.size,_,I.laid (t':=s.toks) (o:=.lst (xB xs lo hi)) (fun b ob q=>KB _ q) (KG _) ?_,rfl,q _ (I.hok.fresh (KG _))⟩;exact⟨Lh (x9 xs lo hi) hz,_,0,(r.drop (HT.vn xs.length 0 lo)).take (HT.vn xs.length xs.length hi - HT.vn xs.length 0 lo),KD _ rfl⟩
def ie:V->Bool
 | .non=>true
 | .bl _=>true
 | .int _=>true
 | .str _=>true
 | _=>false
def Ez:V->V->Bool
 | .non,.non=>true
 | .bl a,.bl b=>a==b
 | .bl a,.int b=>(if a then 1 else 0)==b
 | .int a,.bl b=>a==(if b then 1 else 0)
 | .int a,.int b=>a==b
 | .str a,.str b=>a==b
 | _,_=>false
theorem Hk{A:Around}{s:Shared}{y x:V}{u v:Value}(ry:bg y u)(rx:bg x v)(fy:ie y=true)(fx:ie x=true):SeqAt.EqAt A s u v (Ez y x):=by
 cases y with
 | non =>
  cases ry;cases x with
  | non=>cases rx;exact SeqAt.EqAt.same _
  | bl b=>cases rx;exact SeqAt.EqAt.none_bool b
  | int b=>obtain⟨t,rfl⟩:=rx;exact SeqAt.EqAt.none_int b t
  | str b=>obtain⟨t,rfl⟩:=rx;exact SeqAt.EqAt.none_str b t
  | _=>exact absurd (show false=true from fx) KM
 | bl a =>
  cases ry;cases x with
  | non=>cases rx;exact SeqAt.EqAt.bool_none a
  | bl b=>cases rx;exact SeqAt.EqAt.bool_bool a b
  | int b=>obtain⟨t,rfl⟩:=rx;exact SeqAt.EqAt.bool_int a b t
  | str b=>obtain⟨t,rfl⟩:=rx;exact SeqAt.EqAt.bool_str a b t
  | _=>exact absurd (show false=true from fx) KM
 | int a =>
  obtain⟨t',rfl⟩:=ry;cases x with
  | non=>cases rx;exact SeqAt.EqAt.int_none a t'
  | bl b=>cases rx;exact SeqAt.EqAt.int_bool a t' b
  | int b=>obtain⟨t,rfl⟩:=rx;exact SeqAt.EqAt.int_int a t' b t
  | str b=>obtain⟨t,rfl⟩:=rx;exact SeqAt.EqAt.int_str a t' b t
  | _=>exact absurd (show false=true from fx) KM
 | str a =>
  obtain⟨t',rfl⟩:=ry;cases x with
  | non=>cases rx;exact SeqAt.EqAt.str_none a t'
  | bl b=>cases rx;exact SeqAt.EqAt.str_bool a t' b
  | int b=>obtain⟨t,rfl⟩:=rx;exact SeqAt.EqAt.str_int a t' b t
  | str b=>obtain⟨t,rfl⟩:=rx;exact SeqAt.EqAt.str_str a t' b t
  | _=>exact absurd (show false=true from fx) KM
 | _=>exact absurd (show false=true from fy) KM
def ye(x:V)(u:Value):Bool:=match u with
 | .none=>Ez .non x
 | .bool b=>Ez (.bl b) x
 | .int i _=>Ez (.int i) x
 | .str z _=>Ez (.str z) x
 | _=>false
theorem vm{x y:V}{u:Value}(r:bg y u)(f:ie y=true):ye x u=Ez y x:=by
 cases y with
 | non=>cases r;rfl
 | bl b=>cases r;rfl
 | int i=>obtain⟨t,rfl⟩:=r;rfl
 | str z=>obtain⟨t,rfl⟩:=r;rfl
 | _=>exact absurd (show false=true from f) KM
theorem mV{x:V}:∀{xs:List V}{us:List Value},b8 xs us->xs.all ie=true->us.any (ye x)=xs.any fun y=>Ez y x
 | _,_,.nil,_=>rfl
 | y::xs,u::us,.cons r t,f=>by
  rw[List.all_cons,L7] at f;rw[List.any_cons,List.any_cons,vm r f.1,mV t f.2]
theorem iw{A:Around}{s:Shared}{x:V}{v:Value}(rx:bg x v)(fx:ie x=true):∀{xs:List V}{us:List Value},b8 xs us->xs.all ie=true->∀u∈us,SeqAt.EqAt A s u v (ye x u)
 | _,_,.nil,_=>fun u hu=>by cases hu
 | y::xs,u::us,.cons r t,f=>fun u' hu=>by
  rw[List.all_cons,L7] at f;rcases List.mem_cons.mp hu with rfl | hu
  ·rw[vm r f.1];exact Hk r rx f.1 fx
  ·exact iw rx fx t f.2 u' hu
def nI(x:V)(xs:List V):Bool:=xs.any fun y=>Ez y x
inductive Je(K:Frag)(neg:Bool)(x:V)(y:V)(H:Hp)(Q:VK):Prop
 | mk (p xs:_):y=.ref p->(aH K H p xs∨eB K H p xs)->ie x=true->xs.all ie=true->Q (.bl (if neg then !nI x xs else nI x xs)) H->Je K neg x y H Q
theorem ee:uc X (compareOp .In) (Je X.K false):=by
 intro pins s σ H x y v u Q I rx ry h;obtain⟨p,xs,rfl,hq,fx,fs,q⟩:=h;cases ry;rcases hq with hq | hq
 ·obtain⟨its,r,pl,hz⟩:=I.list hq;refine SeqAt.in_listAt (ye x) pl.isList (fun w hw=>iw rx fx r fs w (by simpa using hw)) ⟨.bl _,H,I,rfl,?_⟩
  rw[show its.toArray.any (ye x)=its.any (ye x) by simp,mV r fs]
  exact q
 ·obtain⟨its,r,pl,hz⟩:=I.tuple hq;refine SeqAt.in_tupleAt (ye x) pl (fun w hw=>iw rx fx r fs w (by simpa using hw)) ⟨.bl _,H,I,rfl,?_⟩
  rw[show its.toArray.any (ye x)=its.any (ye x) by simp,mV r fs]
  exact q
theorem fP:uc X (compareOp .NotIn) (Je X.K true):=by
 intro pins s σ H x y v u Q I rx ry h;obtain⟨p,xs,rfl,hq,fx,fs,q⟩:=h;cases ry;rcases hq with hq | hq
 ·obtain⟨its,r,pl,hz⟩:=I.list hq;refine SeqAt.notIn_listAt (ye x) pl.isList (fun w hw=>iw rx fx r fs w (by simpa using hw)) ⟨.bl _,H,I,rfl,?_⟩
  rw[show its.toArray.any (ye x)=its.any (ye x) by simp,mV r fs]
  exact q
 ·obtain⟨its,r,pl,hz⟩:=I.tuple hq;refine SeqAt.notIn_tupleAt (ye x) pl (fun w hw=>iw rx fx r fs w (by simpa using hw)) ⟨.bl _,H,I,rfl,?_⟩
  rw[show its.toArray.any (ye x)=its.any (ye x) by simp,mV r fs]
  exact q
inductive DJ(K:Frag)(xs:List V)(H:Hp)(Q:VK):Prop
 | mk (p ys:_):xs=[.ref p]->(aH K H p ys∨eB K H p ys)->Q (.int ys.length) H->DJ K xs H Q
theorem aU:eN X (.builtin "len") (DJ X.K):=by
 intro pins s σ H xs us Q I r h;obtain⟨p,ys,rfl,hq,q⟩:=h;obtain⟨u,rfl,rx⟩:=oM r;cases rx;have hn:=vt;rcases hq with hq | hq
 ·obtain⟨its,r',pl,hz⟩:=I.list hq;have hlen:=r'.length;exact Calls.call_len_list pl.isList (by simp only[KW]<;>omega) ⟨.int ys.length,H,I.tok _,⟨s.toks+1,by rw[KW,hlen]⟩,q⟩
 ·obtain⟨its,r',pl,hz⟩:=I.tuple hq;have hlen:=r'.length;exact len_tuple pl (by simp only[KW]<;>omega) ⟨.int ys.length,H,I.tok _,⟨s.toks+1,by rw[KW,hlen]⟩,q⟩
theorem vV:eN X (.builtin "len") (fun xs H Q=>∃z,xs=[.str z]∧z.length≤sizeLine∧Q (.int z.length) H):=by
 intro pins s σ H xs us Q I r h;obtain⟨z,rfl,hz,q⟩:=h;obtain⟨u,rfl,t,rfl⟩:=oM r;have hn:=vt;exact len_str (by omega) ⟨.int z.length,H,I.tok _,⟨_,rfl⟩,q⟩
theorem sR:eN X (.type "tuple") (fun xs H Q=>∃p ys,xs=[.ref p]∧((aH X.K H p ys∧∀l,H l=none->Q (.ref l) (upd H l (.tup ys)))∨(eB X.K H p ys∧Q (.ref p) H))):=by
 intro pins s σ H xs us Q I r h;obtain⟨p,ys,rfl,h⟩:=h;obtain⟨u,rfl,rx⟩:=oM r;cases rx;rcases h with ⟨hq,q⟩ | ⟨hq,q⟩
 ·obtain⟨its,r',pl,hz⟩:=I.list hq;have hlen:=r'.length;refine call_tuple_list pl.isList (fun h' kp=>?_) (by simp only[KW]<;>omega)
  have I1:aM X pins σ H {s with heap:=h'}:=I.kept (t':=s.toks) kp
  have I2:aM X pins σ (upd H h'.objs.size (.tup ys)) {s with heap:=h'.push {cls:=.type "tuple",data:=.seq its.toArray}} :=
   I1.laid (t':=s.toks) (fun b o e=>KB _ e) (KG _) (show bB X.prog X.w _ _ _ (.tup ys) from⟨hz,its,r',IsTup.new _ _⟩)
  exact⟨.ref h'.objs.size,_,I2,rfl,q _ (I1.hok.fresh (KG _))⟩
 ·obtain⟨its,r',pl,hz⟩:=I.tuple hq;exact call_tuple_same pl ⟨.ref p,H,I,rfl,q⟩
def JU(K:Frag)(T:String)(x:V)(H:Hp):Prop:=match x with
 | .str _=>T="str"
 | .int _=>T="int"
 | .ref p=>(T="list"∧∃xs,aH K H p xs)∨(T="tuple"∧∃o,K.lookup p=some o∧o.cls=.type "tuple"∧o.dict=none) ∨
   (T="dict"∧((∃kvs,H p=some (.dK kvs))∨∃kvs,H p=some (.dT kvs)))∨(T="set"∧∃S n,H p=some (.set S n))
 | _=>False
theorem Hb{pins:List (Addr×Obj)}{σ:St}{H:Hp}{s:Shared}{T:String}{x:V}{v:Value}(I:aM X pins σ H s)(r:bg x v)(ty:JU X.K T x H) :
  s.TypeIs v T∧∀a,v=.ref a->∃ob,s.heap.get? a=some ob∧ob.dict=none:=by
 cases x with
 | str z =>
  obtain⟨t,rfl⟩:=r;cases (show T="str" from ty)
  exact⟨typeIs_str s z t,fun _ e=>nomatch e⟩
 | int i =>
  obtain⟨t,rfl⟩:=r;cases (show T="int" from ty)
  exact⟨typeIs_int s i t,fun _ e=>nomatch e⟩
 | ref p =>
  cases r;rcases ty with ⟨rfl,xs,hq⟩ | ⟨rfl,o,hk,hc,hd⟩ | ⟨rfl,hk⟩ | ⟨rfl,S,n,hk⟩
  ·obtain⟨its,_,pl,_⟩:=I.list hq;refine⟨pl.isList.typeIs,fun a e=>?_⟩;cases e;obtain⟨o,n,e,c,hd,_⟩:=pl;exact⟨o,e,hd⟩
  ·refine⟨⟨o,I.kIn p o hk,hc⟩,fun a e=>?_⟩;cases e;exact⟨o,I.kIn _ o hk,hd⟩
  ·have z:∃o,s.heap.get? p=some o∧o.ExactDict:=by
    rcases hk with ⟨kvs,hk⟩ | ⟨kvs,hk⟩
    ·obtain⟨_,_,_,_,o,_,_,e,ex,_⟩:=I.hok p _ hk;exact⟨o,e,ex⟩
    ·obtain⟨_,_,_,_,o,_,_,e,ex,_⟩:=I.hok p _ hk;exact⟨o,e,ex⟩
   obtain⟨o,e,ex⟩:=z;refine⟨⟨o,e,ex.1⟩,fun a e2=>?_⟩;cases e2;exact⟨o,e,ex.2.1⟩
  ·obtain⟨o,_,_,_,e,ex,_⟩:=I.hok p _ hk;refine⟨⟨o,e,ex.1⟩,fun a e2=>?_⟩;cases e2;exact⟨o,e,ex.2.1⟩
 | _=>exact False.elim ty
def Kf(K:Frag)(T:String)(r:V->List V->Hp->VK->Prop)(to:TE)(t:TA):TE:=fun σ H Q=>to σ H fun x H1=>JU K T x H1∧t σ H1 fun xs H2=>r x xs H2 Q
variable{o e:Expr}{es:List Expr}{to:TE}{t:TA}{name:Str}{apos cpos:Pos}{T id:String}{r:V->List V->Hp->VK->Prop}
theorem fO(pa:PlainAttrs T)(slot:Slot T name id)(hty:typeOf (.builtin id)=pure (.type "method_descriptor"))(hm:Gi X id r)(ho:PE X o to)(ha:PA X (e::es) t)
  (hbase:attributeBase o name X.env (eval o X.env)=eval o X.env:=by rfl)
  (hfew:((backTo cpos (starEach (e::es) X.env)).all (fun x=>!x.1)&&(backToKw cpos (keywordEach [] X.env)).all (fun x=>x.1.isSome)
   && decide ((e::es).length+([]:List Keyword).length+(if([]:List Keyword).isEmpty then 0 else 1) < 30))=true:=by rfl)
  (hline:(apos.endLine==cpos.line)=true:=by rfl)(hs:starEach (e::es) X.env=(false,eval e X.env)::starEach es X.env:=by rfl)(hplain:(backTo cpos (starEach es X.env)).any (·.1)=false:=by rfl) :
  PE X (.Call (.Attribute o name apos) (e::es) [] cpos) (Kf X.K T r to t):=by
 intro pins s σ H Q I h;refine wpAny_Call_method_late hbase hfew hline rfl (bE (ho pins s σ H _ I h) fun v s1 ⟨x,H1,I1,r1,ty,q1⟩=>?_);obtain⟨h1,h2⟩:=Hb I1 r1 ty;refine⟨T,id,pa,slot,hty,h1,h2,?_⟩;have hA:=ha cpos pins s1 σ H1 _ I1 q1;rw[hs] at hA ⊢;refine Calls.callWith_builtin (by show(false||(backTo cpos (starEach es X.env)).any (·.1))=false;rw[hplain]<;>rfl) (Calls.evalArgs_plain ?_)
 exact bE hA fun us s2 ⟨vs,H2,I2,r2,q2⟩=>hm pins s2 σ H2 x vs v us Q I2 r1 r2 q2
end
def Ke(X:Cx)(id:String)(r:V->List V->Hp->VK->Prop):Prop :=
 ∀(pins:List (Addr×Obj))(s:Shared)(σ:St)(H:Hp)(x:V)(xs:List V)(v:Value)(us:List Value)(Q:VK),aM X pins σ H s->bg x v->b8 xs us->r x xs H Q →
  wpAny (model X.prog X.w) X.A (call (.builtin id) (v::us)) (EP X pins σ Q) X.xe s
theorem b8.one:∀{x:V}{us:List Value},b8 [x] us->∃u,us=[u]∧bg x u
 | _,_,.cons r .nil=>⟨_,rfl,r⟩
section
variable{X:Cx}{pins:List (Addr×Obj)}{σ:St}{H:Hp}{s:Shared}{l b:Addr}{xs ys zs:List V}
theorem aM.lset{its its':List Value}{n:Nat}{f:Array Value->Array Value}{t':Nat}(I:aM X pins σ H s)(hH:H l=some (.lst xs))
  (e:s.heap.get? l=some {cls:=.type "list",data:=.seq its.toArray n})(hf:f its.toArray=its'.toArray)(hv:b8 ys its')(hz:ys.length≤sizeLine) :
  aM X pins σ (upd H l (.lst ys)) {s with heap:=s.heap.update l (Obj.mapSeq f),toks:=t'}:=by
 have q:=PySem.IsL.update e f;rw[hf] at q;refine I.write (x:=l) (e:=l) (by rw[hH];exact trivial) (.inl rfl) (fun b' u hb hu=>(Lv s.heap (Obj.mapSeq f) (Ne.symm hb)).trans hu) ⟨_,q⟩ ?_
 exact⟨hz,its',_,hv,q⟩
theorem aM.lnew{its:List Value}{t':Nat}(I:aM X pins σ H s)(hv:b8 ys its)(hz:ys.length≤sizeLine) :
  aM X pins σ (upd H s.heap.objs.size (.lst ys)) {s with heap:=s.heap.push {cls:=.type "list",data:=.seq its.toArray},toks:=t'} :=
 I.laid (fun _ _ q=>KB _ q) (KG _) ⟨hz,its,0,hv,KD _ rfl⟩
theorem aM.fresh(I:aM X pins σ H s):H s.heap.objs.size=none:=I.hok.fresh (KG _)
theorem aM.lstM(I:aM X pins σ H s)(hH:H l=some (.lst xs)):xs.length≤sizeLine∧∃(its:List Value)(n:Nat),b8 xs its∧xs.length=its.length∧s.heap.get? l=some {cls:=.type "list",data:=.seq its.toArray n}:=by
 obtain⟨z,its,n,r,e⟩:=I.hok l _ hH;exact⟨z,its,n,r,r.length,e⟩
theorem Du{n:Nat}(h:n≤sizeLine):Builtin.List.listTooLong n=false:=by
 unfold Builtin.List.listTooLong;exact Ln (by omega)
end
section
variable{X:Cx}
inductive AN(x:V)(vs:List V)(H:Hp)(Q:VK):Prop
 | mk (l xs y:_):x=.ref l->vs=[y]->H l=some (.lst xs)->xs.length < sizeLine->Q .non (upd H l (.lst (xs++[y])))->AN x vs H Q
theorem ck:Ke X "list.append" AN:=by
 intro pins s σ H x vs v us Q I rx rv h;obtain⟨l,xs,y,rfl,rfl,hH,hz,q⟩:=h;cases rx;obtain⟨u,rfl,ru⟩:=rv.one;obtain⟨z,its,n,r,hl,e⟩:=I.lstM hH;refine call_meets F.slot_list_append ⟨_,e,rfl⟩ F.entry_list_append (F.args_list_append_2 _ _) (PySem.list_append l its.toArray n u (by rw[KW];omega)) ⟨e,?_⟩
 refine⟨.non,_,I.lset (its':=its++[u]) hH e (by simp) (r.append (.cons ru .nil)) ?_,rfl,q⟩
 rw[Ky,KY];omega
inductive Ae(x:V)(vs:List V)(H:Hp)(Q:VK):Prop
 | mk (l b xs zs:_):x=.ref l->vs=[.ref b]->H l=some (.lst xs)->H b=some (.lst zs)->xs.length+zs.length≤sizeLine->Q .non (upd H l (.lst (xs++zs)))->Ae x vs H Q
theorem ur:Ke X "list.extend" Ae:=by
 intro pins s σ H x vs v us Q I rx rv h;obtain⟨l,b,xs,zs,rfl,rfl,hH,hB,hz,q⟩:=h;cases rx;obtain⟨u,rfl,ru⟩:=rv.one;cases ru;obtain⟨z,its,n,r,hl,e⟩:=I.lstM hH;obtain⟨z2,its2,n2,r2,hl2,e2⟩:=I.lstM hB;have hsz:its.toArray.size+its2.toArray.size≤sizeLine:=by rw[KW,KW];omega
 have hlong:¬(!its.toArray.isEmpty&&Builtin.List.listTooLong (its.toArray.size+its2.toArray.size))=true:=by
  rw[Du hsz,Bool.and_false];exact KM
 refine call_meets F.slot_list_extend ⟨_,e,rfl⟩ F.entry_list_extend (F.args_list_extend_2 _ _)
  (AutoSeq1.list_extend_list_list_0 l its.toArray n b its2.toArray n2 hlong (by rw[KW];omega) (by omega)) ⟨e,e2,?_⟩
 refine⟨.non,_,I.lset (its':=its++its2) hH e (by simp) (r.append r2) ?_,rfl,q⟩
 rw[Ky];omega
inductive IA(x:V)(y:V)(H:Hp)(Q:VK):Prop
 | mk (l b xs zs:_):x=.ref l->y=.ref b->H l=some (.lst xs)->H b=some (.lst zs)->xs.length+zs.length≤sizeLine->(∀p,H p=none->Q (.ref p) (upd H p (.lst (xs++zs))))->IA x y H Q
theorem gS:uc X (binaryOp .Add) IA:=by
 intro pins s σ H x y v u Q I rx ry h;obtain⟨l,b,xs,zs,rfl,rfl,hH,hB,hz,q⟩:=h;cases rx;cases ry;obtain⟨z,its,n,r,hl,e⟩:=I.lstM hH;obtain⟨z2,its2,n2,r2,hl2,e2⟩:=I.lstM hB;refine PySem.P.add_list e e2 ?_ (by rw[KW,KW];omega)
 have ea:its.toArray++its2.toArray=(its++its2).toArray:=by simp
 rw[ea];exact⟨.ref _,_,I.lnew (t':=s.toks) (r.append r2) (by rw[Ky];omega),rfl,q _ I.fresh⟩
end
theorem b8.ints:∀{ns:List Int}{us:List Value},b8 (ns.map V.int) us->IntsAre us ns
 | [],us,h=>by
  rw[List.map_nil] at h;cases h;exact IntsAre.nil
 | n::ns,us,h=>by
  rw[KR] at h;cases h with
  | cons r t =>
   obtain⟨k,rfl⟩:=r;exact IntsAre.cons n k (b8.ints t)
theorem iZ:∀{us:List Value}{ns:List Int},IntsAre us ns->b8 (ns.map V.int) us
 | _,_,.nil=>by rw[List.map_nil];exact Paired.nil
 | _,_,.cons n t h=>by rw[KR];exact Paired.cons (show bg (V.int n) (Value.int n t) from⟨t,rfl⟩) (iZ h)
theorem b8.bls:∀{bs:List Bool}{us:List Value},b8 (bs.map V.bl) us->us=bs.map Value.bool
 | [],us,h=>by
  rw[List.map_nil] at h;cases h;rfl
 | b::bs,us,h=>by
  rw[KR] at h;cases h with
  | cons r t =>
   cases r;rw[b8.bls t,KR]
theorem b8.ref1{a:Addr}{us:List Value}(r:b8 [V.ref a] us):us=[Value.ref a]:=by
 cases r with
 | cons r t =>
  cases t;cases r;rfl
section
variable{prog:Program}{w:World}{A:Around}{E:Value->Shared->Prop}{s:Shared}{l:Addr}{its:List Value}{ns:List Int}{Q:Value->Shared->Prop}
theorem Fi(hh:A.handled=none)(hl:s.heap.IsList l its.toArray)(hi:IntsAre its ns)
  (h:∀h' tk t',(∀b o,s.heap.get? b=some o->h'.get? b=some o)->Q (.int ns.sum t') {s with heap:=h',toks:=tk}):wpAny (model prog w) A (call (.builtin "sum") [.ref l]) Q E s:=by
 obtain⟨xs,e⟩:=hi.allInts.items;have hn:numsOf (intItems xs).toList=ns:=by rw[←e];exact hi.numsOf
 rw[nums_intItems] at hn;rw[e] at hl;refine PySem.sum_intListG hh hl fun h' tk t' hk=>?_;have:=h h' tk t' hk;rw[preSum_eq,KS (by simp),hn];exact this
theorem F0(hh:A.handled=none)(hl:s.heap.IsList l its.toArray)(hi:IntsAre its ns)(hne:0 < ns.length)
  (h:∀h' tk M t',(∀b o,s.heap.get? b=some o->h'.get? b=some o)->M∈ns->(∀a,a∈ns->M≤a)->Q (.int M t') {s with heap:=h',toks:=tk}):wpAny (model prog w) A (call (.builtin "min") [.ref l]) Q E s:=by
 obtain⟨xs,e⟩:=hi.allInts.items;have hn:numsOf (intItems xs).toList=ns:=by rw[←e];exact hi.numsOf
 rw[nums_intItems] at hn;subst hn;rw[e] at hl;have hsz:0 < xs.size:=by simpa using hne
 refine PySem.min_intList hh hl hsz fun v h' tk hv hk=>?_;obtain⟨t,rfl⟩:=intItems_at hv;obtain⟨h1,h2⟩:=argBest_lt (numAt xs) (xs.size - 1);refine h h' tk _ t hk ?_ fun a ha=>?_
 ·rw[numAt_eq];exact PySem.getD_mem (by rw[Kv,Lu];omega)
 ·obtain⟨j,hj,rfl⟩:=mem_getD ha;rw[Kv,Lu] at hj;rw[←numAt_eq];exact h2 j (by omega)
end
section
variable{X:Cx}
inductive Iz(K:Frag)(vs:List V)(H:Hp)(Q:VK):Prop
 | mk (a:Addr) (ns:List Int):vs=[V.ref a]->aH K H a (ns.map V.int)->Q (.int ns.sum) H->Iz K vs H Q
inductive Ie(K:Frag)(vs:List V)(H:Hp)(Q:VK):Prop
 | mk (a:Addr) (ns:List Int):vs=[V.ref a]->aH K H a (ns.map V.int)->0 < ns.length->(∀m,m∈ns->(∀y,y∈ns->m≤y)->Q (.int m) H)->Ie K vs H Q
theorem Gu(hc:X.calm=true):eN X (.builtin "sum") (Iz X.K):=by
 intro pins s σ H vs us Q I r h;obtain⟨a,ns,rfl,hs,q⟩:=h;obtain⟨its,rv,hl,_⟩:=I.list hs;rw[b8.ref1 r];exact Fi (I.ok.hd hc) hl.isList rv.ints fun h' tk t' hk=>⟨.int _,H,I.kept hk,⟨_,rfl⟩,q⟩
theorem zE(hc:X.calm=true):eN X (.builtin "min") (Ie X.K):=by
 intro pins s σ H vs us Q I r h;obtain⟨a,ns,rfl,hs,hne,q⟩:=h;obtain⟨its,rv,hl,_⟩:=I.list hs;rw[b8.ref1 r];exact F0 (I.ok.hd hc) hl.isList rv.ints hne fun h' tk m t' hk h1 h2=>⟨.int _,H,I.kept hk,⟨_,rfl⟩,q m h1 h2⟩
inductive Aa(K:Frag)(vs:List V)(H:Hp)(Q:VK):Prop
 | mk (a:Addr) (ns:List Int):vs=[V.ref a]->aH K H a (ns.map V.int)->ns.length < 64->(∀(ns':List Int)(p:Addr),ns'.Perm ns->ns'.Pairwise (·≤·)->H p=none->Q (.ref p) (upd H p (.lst (ns'.map V.int))))->Aa K vs H Q
theorem FN{n:Nat}(h:n < 64):n≤sizeLine:=by rw[sizeLine_eq];omega
theorem BP:eN X (.builtin "sorted") (Aa X.K):=by
 intro pins s σ H vs us Q I r h;obtain⟨a,ns,rfl,hs,h64,q⟩:=h;obtain⟨its,rv,hl,_⟩:=I.list hs;rw[b8.ref1 r];have hi:=rv.ints;refine PyProof.Rows.sorted_ints hl.isList hi (by rw[hi.length];exact h64) fun out ns' h1 h2 h3=>?_
 obtain⟨ep,he'⟩:=PyProof.Rows.sortedAll_at s.heap its out;have hlen:(ns'.map V.int).length≤sizeLine:=by rw[Kv,h2.length_eq];exact FN h64
 exact⟨.ref _,upd H (s.heap.objs.size+1) (.lst (ns'.map V.int)),I.laid (t':=s.toks) (fun _ _=>PyProof.Rows.sortedAll_old) (Nat.le_succ _) ⟨hlen,out.toList,ep,iZ h1,he'⟩,rfl,q ns' _ h2 h3 (I.hok.fresh (Nat.le_succ _))⟩
inductive yW(K:Frag)(x:V)(xs:List V)(H:Hp)(Q:VK):Prop
 | mk (a:Addr) (ys:List V) (y:V) (j:Nat) (z:V):x=V.ref a->xs=[y]->aH K H a ys->ie y=true->ys.all ie=true->ys[j]?=some z->Ez z y=true->(∀(m:Nat)(z':V),m < j->ys[m]?=some z'->Ez z' y=false)->Q (.int (j:Nat)) H->yW K x xs H Q
theorem AL{ys:List V}(f:ys.all ie=true){j:Nat}{z:V}(h:ys[j]?=some z):ie z=true:=List.all_eq_true.mp f z (KA h)
theorem xj:Gi X "list.index" (yW X.K):=by
 intro pins s σ H x xs v us Q I rx rxs h;obtain⟨a,ys,y,j,z,rfl,rfl,hs,fy,fys,hz,hzj,hno,q⟩:=h;cases rx;cases rxs with
 | cons ry rt =>
  rename_i uy ut
  cases rt;obtain⟨its,rv,⟨⟨cls,dd,data,sl⟩,n,ho,hc,hdn,hd⟩,hlen⟩:=I.list hs;simp only at hc hd;subst hc hd;obtain⟨u,hu,ru⟩:=rv.get hz;obtain⟨hjl,hje⟩:=KQ.mp hu;have hvl:=rv.length;have hj:j < its.toArray.size:=by simpa using hjl
  have hsl:=sizeLine_eq
  refine call_meets PySem.F.slot_list_index ⟨_,ho,rfl⟩ PySem.F.entry_list_index (PySem.F.args_list_index_2 _ _)
   (SeqAt.list_indexAt a its.toArray n dd sl uy (ye y) j hj (by omega) ?_ ?_) ⟨ho,fun u' hu'=>iw ry fy rv fys u' (by simpa using hu'),?_⟩
  ·have e1:its.toArray[j]=u:=by simpa using hje
   rw[e1,vm ru (AL fys hz)];exact hzj
  ·intro m hm hmj;have hml:m < its.length:=by simpa using hm
   have hmy:m < ys.length:=by omega
   have hy':ys[m]?=some ys[m]:=Kz hmy;obtain⟨u2,hu2,ru2⟩:=rv.get hy';obtain⟨_,hme⟩:=KQ.mp hu2;have e1:its.toArray[m]=u2:=by simpa using hme
   rw[e1,vm ru2 (AL fys hy')];exact hno m _ hmj hy'
  ·exact⟨.int (j:Nat),H,I.tok _,⟨_,rfl⟩,q⟩
end
theorem y4{prog:Program}{w:World}{A:Around}{E:Value->Shared->Prop}{s:Shared}{l:Addr}{items:Array Value}{Q:Value->Shared->Prop}(hl:s.heap.IsList l items)
  (h:∀s₂:Shared,s₂={s with heap:=s.heap.push {cls:=.type "list_iterator",data:=.fields #[.ref l,.int 0 0]}} →
   (s₂.heap.IsListIter s.heap.objs.size l 0∧s₂.heap.IsList l items)->l≠s.heap.objs.size->Q (.ref s.heap.objs.size) s₂):wpAny (model prog w) A (pyIter (.ref l)) Q E s:=by
 have hlt:l < s.heap.objs.size:=by obtain⟨_,e,_⟩:=hl;exact KC e
 exact wpAny_pyIter_list hl (h _ rfl ⟨⟨_,KD _ rfl,rfl,rfl⟩,hl.push _⟩ (Lj hlt))
theorem oS{prog:Program}{w:World}{A:Around}{bs:List Bool}{its:List Value}(e:its=bs.map Value.bool) :
  TruthOf prog w A (fun i v=>its.toArray[i]?=some v) (fun i=>bs.getD i false):=fun i v s Q E hv hq=>by
 have hv':its[i]?=some v:=by simpa using hv
 rw[e,Kw] at hv';obtain⟨b,hb,rfl⟩:=KF.mp hv';have hg:bs.getD i false=b:=by rw[KP,hb]<;>rfl
 have hq':Q (bs.getD i false) s:=hq;rw[hg] at hq';exact wpAny_truthy_bool hq'
theorem ud:∀bs:List Bool,(List.range bs.length).any (fun i=>bs.getD i false)=bs.any id
 | []=>rfl
 | b::bs=>by
  rw[Kx,List.range_succ_eq_map,List.any_cons,List.any_map,List.any_cons,←ud bs]
  all_goals rfl
theorem tE:∀bs:List Bool,(List.range bs.length).all (fun i=>bs.getD i false)=bs.all id
 | []=>rfl
 | b::bs=>by
  rw[Kx,List.range_succ_eq_map,List.all_cons,List.all_map,List.all_cons,←tE bs]
  all_goals rfl
section
variable{X:Cx}
inductive HE(K:Frag)(vs:List V)(H:Hp)(Q:VK):Prop
 | mk (a:Addr) (bs:List Bool):vs=[V.ref a]->aH K H a (bs.map V.bl)->Q (.bl (bs.any id)) H->HE K vs H Q
inductive II(K:Frag)(vs:List V)(H:Hp)(Q:VK):Prop
 | mk (a:Addr) (bs:List Bool):vs=[V.ref a]->aH K H a (bs.map V.bl)->Q (.bl (bs.all id)) H->II K vs H Q
theorem Cr(hc:X.calm=true):eN X (.builtin "any") (HE X.K):=by
 intro pins s σ H vs us Q I r h;obtain⟨a,bs,rfl,hs,q⟩:=h;obtain⟨its,rv,hl,_⟩:=I.list hs;rw[b8.ref1 r];have hb:=rv.bls;refine call_any_walk (y4 hl.isList fun s₂ e2 st hne=>?_);subst e2;refine⟨_,_,_,_,_,_,_,rfl,Walks.list (A:=X.A.in1) (I.ok.hd hc) _ a hne its.toArray,st,oS hb,fun h' tk hk=>?_⟩;refine⟨.bl _,H,I.kept fun b o eo=>hk b o (fun hmem=>?_) (KB _ eo),?_,q⟩
 ·rcases List.mem_cons.mp hmem with e1 | hmem
  ·exact absurd (e1▸KC eo) (Li _)
  ·cases hmem
 ·show Value.bool _=Value.bool _;rw[←ud,hb,KW,Kv]
theorem CW(hc:X.calm=true):eN X (.builtin "all") (II X.K):=by
 intro pins s σ H vs us Q I r h;obtain⟨a,bs,rfl,hs,q⟩:=h;obtain⟨its,rv,hl,_⟩:=I.list hs;rw[b8.ref1 r];have hb:=rv.bls;refine call_all_walk (y4 hl.isList fun s₂ e2 st hne=>?_);subst e2;refine⟨_,_,_,_,_,_,_,rfl,Walks.list (A:=X.A.in1) (I.ok.hd hc) _ a hne its.toArray,st,oS hb,fun h' tk hk=>?_⟩;refine⟨.bl _,H,I.kept fun b o eo=>hk b o (fun hmem=>?_) (KB _ eo),?_,q⟩
 ·rcases List.mem_cons.mp hmem with e1 | hmem
  ·exact absurd (e1▸KC eo) (Li _)
  ·cases hmem
 ·show Value.bool _=Value.bool _;rw[←tE,hb,KW,Kv]
end
abbrev DO(h:Heap)(c:Addr)(v:Option Value):Prop:=h.IsCell c v
def JO(scope sc:Scope):Scope :=
 {scope with names:=scope.names.map fun(n,k)=>if(k==.free&&sc.kind==.function&&sc.names.lookup n==some .cell) then(n,.cell) else(n,k)}
def bO(cells:List (Str×Addr)):List (Str×NameKind)->List (Str×Addr)->List (Str×Addr)
 | [],acc=>acc
 | (n,k)::r,acc=>if k==.free then bO cells r ((n,(cells.lookup n).getD 0)::acc) else bO cells r acc
theorem mi(env:Env)(f:Str×NameKind->List (Str×Addr)->Sem (ForInStep (List (Str×Addr))))
  (hf:∀n k c,f (n,k) c=if k==.free then(do let a ←cellOf env n;pure (.yield ((n,a)::c))) else pure (.yield c)) :
  ∀(names:List (Str×NameKind))(acc:List (Str×Addr)),(∀y∈names,y.2=.free->∃c,env.cells.lookup y.1=some c)->forIn names acc f=pure (bO env.cells names acc)
 | [],acc,_=>by rw[List.forIn_nil];rfl
 | (n,k)::r,acc,h=>by
  rw[List.forIn_cons,hf];have ih:=fun acc=>mi env f hf r acc fun y hy=>h y (KH _ hy);unfold bO
  by_cases hk:(k==NameKind.free)=true
  ·rw[if_pos hk,if_pos hk];obtain⟨c,hc⟩:=h (n,k) KJ (by simpa using hk)
   have e:cellOf env n=pure c:=by unfold cellOf;rw[hc]
   rw[e];have e2:(env.cells.lookup n).getD 0=c:=by rw[hc];rfl
   rw[e2];exact ih _
  ·rw[if_neg hk,if_neg hk];exact ih _
theorem zb{scope:Scope}{env:Env}(h:∀y∈scope.names,y.2=.free->∃c,env.cells.lookup y.1=some c):closureFor scope env=pure (bO env.cells scope.names []):=by
 simp only[closureFor];rw[mi env _ (fun n k c=>rfl) scope.names [] h];rfl
theorem lM{α:Type}:∀{l:List (Str×α)}{n:Str}{c:α},(n,c)∈l->∃c',l.lookup n=some c'
 | (k,v)::r,n,c,h=>by
  rw[List.lookup_cons];cases hb:n==k with
  | true=>exact⟨_,rfl⟩
  | false =>
   rcases List.mem_cons.mp h with e | h
   ·cases e;simp at hb
   ·exact lM h
theorem gI{cells:List (Str×Addr)}:∀{names:List (Str×NameKind)}{acc:List (Str×Addr)}{n:Str}{c:Addr},(n,c)∈bO cells names acc->(n,c)∈acc∨((n,.free)∈names∧c=(cells.lookup n).getD 0)
 | [],_,_,_,h=>.inl h
 | (m,k)::r,acc,n,c,h=>by
  unfold bO at h
  split at h
  ·rename_i hk
   have hk:k=.free:=by simpa using hk
   rcases gI h with h | ⟨h1,h2⟩
   ·rcases List.mem_cons.mp h with e | h
    ·cases e;exact .inr ⟨hk▸KJ,rfl⟩
    ·exact .inl h
   ·exact .inr ⟨KH _ h1,h2⟩
  ·rcases gI h with h | ⟨h1,h2⟩
   ·exact .inl h
   ·exact .inr ⟨KH _ h1,h2⟩
theorem jz{cells:List (Str×Addr)}:∀{names:List (Str×NameKind)}{acc:List (Str×Addr)}{p:Str×Addr},p∈acc->p∈bO cells names acc
 | [],_,_,h=>h
 | (m,k)::r,acc,p,h=>by
  unfold bO
  split
  ·exact jz (KH _ h)
  ·exact jz h
theorem jV{cells:List (Str×Addr)}:∀{names:List (Str×NameKind)}{acc:List (Str×Addr)}{n:Str},(n,.free)∈names->(n,(cells.lookup n).getD 0)∈bO cells names acc
 | (m,k)::r,acc,n,h=>by
  unfold bO;rcases List.mem_cons.mp h with e | h
  ·cases e;exact jz KJ
  ·split
   ·exact jV h
   ·exact jV h
theorem ig:∀{names:List (Str×NameKind)}{h:Heap}{acc:List (Str×Addr)}{x:Str}{c:Addr},(x,c)∈cellsFrom h.objs.size names acc →
  (x,c)∈acc∨((x,.cell)∈names∧h.objs.size≤c∧DO (pushCells h names) c none)
 | [],_,_,_,_,h=>.inl h
 | (n,k)::r,h,acc,x,c,hm=>by
  unfold cellsFrom at hm;unfold pushCells
  split at hm
  ·rename_i hk
   rw[if_pos hk];have hk:k=.cell:=by simpa using hk
   rw[←LP h {cls:=.type "cell",data:=.cell none}] at hm;rcases ig hm with hm | ⟨h1,h2,h3⟩
   ·rcases List.mem_cons.mp hm with e | hm
    ·cases e;exact .inr ⟨hk▸KJ,KG _,_,pushCells_keeps r _ _ _ (KD _ rfl),rfl⟩
    ·exact .inl hm
   ·rw[LP] at h2;exact .inr ⟨KH _ h1,Nat.le_of_succ_le h2,h3⟩
  ·rename_i hk
   rw[if_neg hk];rcases ig hm with hm | ⟨h1,h2,h3⟩
   ·exact .inl hm
   ·exact .inr ⟨KH _ h1,h2,h3⟩
theorem kP:∀{names:List (Str×NameKind)}{n:Nat}{acc:List (Str×Addr)}{p:Str×Addr},p∈acc->p∈cellsFrom n names acc
 | [],_,_,_,h=>h
 | (m,k)::r,n,acc,p,h=>by
  unfold cellsFrom
  split
  ·exact kP (KH _ h)
  ·exact kP h
theorem ox:∀{names:List (Str×NameKind)}{n:Nat}{acc:List (Str×Addr)}{x:Str},(x,.cell)∈names->∃c,(x,c)∈cellsFrom n names acc
 | (m,k)::r,n,acc,x,h=>by
  unfold cellsFrom;rcases List.mem_cons.mp h with e | h
  ·cases e;exact⟨n,kP KJ⟩
  ·split
   ·exact ox h
   ·exact ox h
theorem o6:∀{names:List (Str×NameKind)}{h:Heap}{acc:List (Str×Addr)}{x y:Str}{c:Addr},(∀p∈acc,p.2 < h.objs.size)->(∀x y c,(x,c)∈acc->(y,c)∈acc->x=y) →
  (x,c)∈cellsFrom h.objs.size names acc->(y,c)∈cellsFrom h.objs.size names acc->x=y
 | [],_,_,_,_,_,_,hi,h1,h2=>hi _ _ _ h1 h2
 | (n,k)::r,h,acc,x,y,c,hl,hi,h1,h2=>by
  unfold cellsFrom at h1 h2
  split at h1
  ·rename_i hk
   rw[if_pos hk] at h2;rw[←LP h {cls:=.type "cell",data:=.cell none}] at h1 h2;refine o6 (h:=h.push _) (fun p hp=>?_) (fun x y c a b=>?_) h1 h2
   ·rw[LP];rcases List.mem_cons.mp hp with rfl | hp
    ·exact LO _
    ·exact Nat.lt_succ_of_lt (hl p hp)
   ·rcases List.mem_cons.mp a with e | a<;>rcases List.mem_cons.mp b with e' | b
    ·cases e;cases e';rfl
    ·cases e;exact absurd (hl _ b) (Li _)
    ·cases e';exact absurd (hl _ a) (Li _)
    ·exact hi _ _ _ a b
  ·rename_i hk
   rw[if_neg hk] at h2;exact o6 hl hi h1 h2
theorem wR{M:Model}{A:Around}{E:Value->Shared->Prop}{s:Shared}{scope:Scope}{globals:Addr}{closure:List (Str×Addr)}{qual:Str}{func:Option Addr}{code:Value}{around:Env}{builtins:Addr}{Q:Env->Shared->Prop}
  (h:Q (newEnv scope s.heap.objs.size globals (cellsFrom (s.heap.objs.size+1) scope.names closure) qual func code (some around) builtins)
   {s with heap:=pushCells (s.heap.push {cls:=.type "dict",data:=.dict #[]}) scope.names}) :
  wpAny M A (newFunctionEnv scope globals closure [] qual func code (some around) builtins) Q E s:=by
 simp only[newFunctionEnv,Option.isSome_some,if_true];refine wpAny_bind (wpAny_alloc ?_);refine wpAny_bind (wpAny_layCells _ (fun n k c=>rfl) scope.names closure _ _ ?_);rw[show({s with heap:=s.heap.push {cls:=.type "dict",data:=.dict #[]}}:Shared).heap.objs.size=s.heap.objs.size+1 from LP ..]
 rw[List.forIn_nil];exact wpAny_bind (wpAny_pure (wpAny_pure h))
theorem jw{sc:Scope}:∀{names:List (Str×NameKind)}{x:Str}{k:NameKind},
  (names.map fun(n,k)=>if(k==NameKind.free&&sc.kind==.function&&sc.names.lookup n==some .cell) then(n,NameKind.cell) else(n,k)).lookup x=some k →
  ∃k',names.lookup x=some k'∧(k=k'∨(k'=.free∧k=.cell))
 | [],_,_,h=>by simp at h
 | (n,k₀)::r,x,k,h=>by
  have ih:=@jw sc r x k;have h':List.lookup x ((if(k₀==NameKind.free&&sc.kind==.function&&sc.names.lookup n==some .cell)=true then(n,NameKind.cell) else(n,k₀))::(r.map _))=some k:=h;cases hx:x==n with
  | true =>
   simp only[List.lookup_cons,hx]
   by_cases hc:(k₀==NameKind.free&&sc.kind==.function&&sc.names.lookup n==some .cell)=true
   ·rw[if_pos hc] at h';simp only[List.lookup_cons,hx] at h';cases h';simp only[L7,beq_iff_eq] at hc;exact⟨k₀,rfl,.inr ⟨hc.1.1,rfl⟩⟩
   ·rw[if_neg hc] at h';simp only[List.lookup_cons,hx] at h';cases h';exact⟨_,rfl,.inl rfl⟩
  | false =>
   simp only[List.lookup_cons,hx]
   by_cases hc:(k₀==NameKind.free&&sc.kind==.function&&sc.names.lookup n==some .cell)=true
   ·rw[if_pos hc] at h';simp only[List.lookup_cons,hx] at h';exact ih h'
   ·rw[if_neg hc] at h';simp only[List.lookup_cons,hx] at h';exact ih h'
structure y3(N:List Str)(sc scope:Scope)(own:List (Str×Nat)):Prop where
 kind:scope.kind=.function
 uniq:∀y∈scope.names,scope.names.lookup y.1=some y.2
 ix:∀p∈own,N[p.2]?=some p.1
 free:∀y∈scope.names,y.2=.free->sc.names.lookup y.1=some .cell∨sc.names.lookup y.1=some .free
 own:∀y∈scope.names,y.2=.local∨y.2=.cell->y.1∈own.map (·.1)∨y.1∉N
def bJ(σ:St):List Nat->St
 | []=>σ
 | v::vs=>(bJ σ vs).set v none
theorem jP(σ:St):∀vs:List Nat,(bJ σ vs).length=σ.length
 | []=>rfl
 | v::vs=>by unfold bJ;rw[LB,jP σ vs]
theorem nZ{σ:St}{i:Nat}{x:V}:∀{vs:List Nat},(bJ σ vs)[i]?=some (some x)->σ[i]?=some (some x)∧i∉vs
 | [],h=>⟨h,by simp⟩
 | v::vs,h=>by
  unfold bJ at h
  by_cases hi:v=i
  ·subst hi
   by_cases hv:v < (bJ σ vs).length
   ·rw[LC hv] at h;cases h
   ·rw[L8 (by simpa using hv)] at h;cases h
  ·rw[LD hi] at h;obtain⟨h1,h2⟩:=nZ h;exact⟨h1,by simp only[List.mem_cons,not_or];exact⟨fun e=>hi e.symm,h2⟩⟩
abbrev Cx.blk(X:Cx)(s:Shared)(H:Hp)(scope:Scope)(cenv:Env)(fp:List Addr):Cx:={X with s_0:=s,H_0:=H,env:=cenv,outer:=X.stack,ex:=fp,fn:=fun x=>scope.names.lookup x==some .cell,pn:=[],xe:=fun _ _=>False}
section
variable{X:Cx}{pins:List (Addr×Obj)}{σ:St}{H:Hp}{s:Shared}
theorem xR{scope:Scope}{own:List (Str×Nat)}{fp:List Addr}(I:aM X pins σ H s)(ok:y3 X.N X.env.scope scope own)(hN:X.N.Nodup)(hfp:∀b∈fp,jr X pins H b∧b < s.heap.objs.size) :
  aM (X.blk s H scope (compEnvC scope (cellsFrom (s.heap.objs.size+1) scope.names (bO X.env.cells scope.names [])) s.heap.objs.size X.env) fp) [] (bJ σ (own.map (·.2))) H {s with heap:=pushCells (s.heap.push {cls:=.type "dict",data:=.dict #[]}) scope.names}:=by
 have hfree:∀y∈scope.names,y.2=.free->∃c,X.env.cells.lookup y.1=some c:=fun y hy e=>by
  rcases ok.free y hy e with k | k
  ·exact I.ok.has _ (.inl k)
  ·exact I.ok.has _ (.inr k)
 generalize hcenv:compEnvC scope (cellsFrom (s.heap.objs.size+1) scope.names (bO X.env.cells scope.names [])) s.heap.objs.size X.env=cenv;have kp:∀b o,s.heap.get? b=some o->(pushCells (s.heap.push {cls:=.type "dict",data:=.dict #[]}) scope.names).get? b=some o:=fun b o e=>pushCells_keeps _ _ _ _ (KB _ e);have hL:cenv.locals=s.heap.objs.size:=by rw[←hcenv];rfl
 have hcl:cenv.cells=cellsFrom (s.heap.objs.size+1) scope.names (bO X.env.cells scope.names []):=by rw[←hcenv];rfl
 have hsc:cenv.scope=JO scope X.env.scope:=by rw[←hcenv];rfl
 rw[←LP s.heap {cls:=.type "dict",data:=.dict #[]}] at hcl
 have cm:∀{y c},(y,c)∈bO X.env.cells scope.names []->X.env.cells.lookup y=some c∧c < s.heap.objs.size:=fun{y c} hm=>by
  rcases gI hm with hm | ⟨h1,rfl⟩
  ·cases hm
  ·obtain⟨c,hc⟩:=hfree _ h1 rfl;rw[hc];obtain⟨w,z⟩:=I.cell _ _ hc;exact⟨rfl,z.lt⟩
 have mem:∀{y c},cenv.cells.lookup y=some c->(X.env.cells.lookup y=some c∧c < s.heap.objs.size)∨(s.heap.objs.size+1≤c∧DO (pushCells (s.heap.push {cls:=.type "dict",data:=.dict #[]}) scope.names) c none):=fun{y c} e=>by
  rw[hcl] at e;rcases ig (PySem.mem_of_lookup e) with hm | ⟨_,h2,h3⟩
  ·exact .inl (cm hm)
  ·rw[LP] at h2;exact .inr ⟨h2,h3⟩
 have look:∀{y},scope.names.lookup y=some .free->∃c,cenv.cells.lookup y=some c∧X.env.cells.lookup y=some c:=fun{y} hl=>by
  have hy:(y,NameKind.free)∈scope.names:=PySem.mem_of_lookup hl;obtain⟨c',e'⟩:=lM (kP (names:=scope.names) (n:=(s.heap.push {cls:=.type "dict",data:=.dict #[]}).objs.size) (jV (cells:=X.env.cells) (acc:=[]) hy));rw[←hcl] at e';refine⟨c',e',?_⟩;rw[hcl] at e';rcases ig (PySem.mem_of_lookup e') with hm | ⟨h1,_,_⟩
  ·exact(cm hm).1
  ·have:=ok.uniq _ h1;rw[hl] at this;cases this
 have okB:(X.blk s H scope cenv fp).Ok:=by
  refine⟨I.ok.mod,by show cenv.scope.kind=_;rw[hsc];exact ok.kind,by show cenv.globals=_;rw[←hcenv];exact I.ok.glob,by show cenv.builtins=_;rw[←hcenv];exact I.ok.blt,by show s.heap.objs.size≤cenv.locals;rw[hL];exact KG _,
   fun y z c e1 e2=>?_,fun y hy=>?_,fun y c z e=>?_,I.ok.hd,I.ok.frames,.inl rfl,fun b hb=>⟨?_,fun y c e z=>?_⟩,I.bs,Lh I.ok.bsz I.sz,fun b o e hb=>?_,fun b hb z=>?_,I.stack,I.stkFree⟩
  ·have e1:cenv.cells.lookup y=some c:=e1;have e2:cenv.cells.lookup z=some c:=e2;rw[hcl] at e1 e2;refine o6 (fun p hp=>?_) (fun y z c a b=>I.ok.inj y z c (cm a).1 (cm b).1) (PySem.mem_of_lookup e1) (PySem.mem_of_lookup e2);rw[LP];exact Nat.lt_succ_of_lt (cm (y:=p.1) (c:=p.2) hp).2
  ·show ∃c,cenv.cells.lookup y=some c
   have key:∀k,cenv.kindOf y=some k->(k=.cell∨k=.free)->∃c,cenv.cells.lookup y=some c:=fun k hk hk'=>by
    unfold Env.kindOf at hk;rw[hsc] at hk;obtain⟨k',e,r⟩:=jw hk
    have:k'=.cell∨k'=.free:=by
     rcases r with rfl | ⟨rfl,_⟩
     ·exact hk'
     ·exact .inr rfl
    rcases this with rfl | rfl
    ·obtain⟨c,hm⟩:=ox (n:=(s.heap.push {cls:=.type "dict",data:=.dict #[]}).objs.size) (acc:=bO X.env.cells scope.names []) (PySem.mem_of_lookup e);obtain⟨c',e'⟩:=lM hm;exact⟨c',by rw[hcl];exact e'⟩
    ·obtain⟨c,h1,_⟩:=look e;exact⟨c,h1⟩
   rcases hy with hy | hy
   ·exact key _ hy (.inl rfl)
   ·exact key _ hy (.inr rfl)
  ·have z:(scope.names.lookup y==some NameKind.cell)=true:=z;have z:scope.names.lookup y=some .cell:=by simpa using z
   have e:cenv.cells.lookup y=some c:=e;rw[hcl] at e;rcases ig (PySem.mem_of_lookup e) with hm | ⟨_,h2,_⟩
   ·rcases gI hm with hm | ⟨h1,_⟩
    ·cases hm
    ·have q:=ok.uniq _ h1;rw[z] at q;cases q
   ·rw[LP] at h2;exact Nat.le_of_succ_le h2
  ·show b≠cenv.locals;rw[hL];exact Lj (hfp b hb).2
  ·have e:cenv.cells.lookup y=some c:=e;rcases mem e with ⟨h1,_⟩ | ⟨h1,_⟩
   ·exact(hfp b hb).1.2.2.2.2.1 y c h1 z
   ·have h2:s.heap.objs.size+1≤b:=by rw[←z];exact h1
    exact absurd (KU (hfp b hb).2 (Nat.le_of_succ_le h2)) (Li _)
  ·rcases(hfp b hb).1.2.2.2.1 with z | z
   ·exact I.ok.noex b o e z
   ·exact absurd (KU (KC e) (Lh I.ok.bsz z)) (Li _)
  ·rcases List.mem_cons.mp (I.stkSub b z) with z | z
   ·exact(hfp b hb).1.2.1 z
   ·exact(hfp b hb).1.2.2.1 z
 refine⟨okB,rfl,I.bare,Un.kept kp,⟨fun _=>none,?_,fun i y av e1 e2 e3=>?_⟩,fun y c e=>?_,?_,fun y c e=>?_,fun p hp=>?_,I.hok.kept kp,by rw[jP];exact I.len⟩
 ·show Heap.Ns _ cenv.locals _;rw[hL];exact Heap.Ns.keeps (Heap.Ns.new ..) fun b o e=>pushCells_keeps _ _ _ _ e
 ·obtain⟨e2,hne⟩:=nZ e2
  have hfr:scope.names.lookup y=some .free∧(cenv.kindOf y=some .cell∨cenv.kindOf y=some .free):=by
   have key:∀k,cenv.scope.names.lookup y=some k->k=.local∨k=.cell∨k=.free->scope.names.lookup y=some .free∧(cenv.kindOf y=some .cell∨cenv.kindOf y=some .free):=fun k hk hk'=>by
    have hk0:=hk;rw[hsc] at hk;obtain⟨k',e,r⟩:=jw hk
    have no:¬(k'=.local∨k'=.cell):=fun hh=>by
     rcases ok.own _ (PySem.mem_of_lookup e) hh with e' | e'
     ·obtain⟨p,hp,hpy⟩:=Ls.mp e';have e3:=ok.ix p hp;have:p.1=y:=hpy;rw[this] at e3;exact hne (Ls.mpr ⟨p,hp,mB hN e3 e1⟩)
     ·exact e' (KA e1)
    rcases r with rfl | ⟨rfl,rfl⟩
    ·rcases hk' with rfl | rfl | rfl
     ·exact absurd (.inl rfl) no
     ·exact absurd (.inr rfl) no
     ·exact⟨e,.inr hk0⟩
    ·exact⟨e,.inl hk0⟩
   have e3:Hu cenv.scope y:=e3;rcases e3 with e3 | e3 | e3
   ·exact key _ e3 (.inl rfl)
   ·exact key _ e3 (.inr (.inl rfl))
   ·exact key _ e3 (.inr (.inr rfl))
  obtain⟨m,hn,hl⟩:=I.loc;have hvis:Hu X.env.scope y:=(ok.free _ (PySem.mem_of_lookup hfr.1) rfl).elim (fun k=>.inr (.inl k)) (fun k=>.inr (.inr k));obtain⟨w,r,q⟩:=hl i y av e1 e2 hvis;refine⟨w,r,.inr ⟨hfr.2,?_⟩⟩;obtain⟨c,h1,h2⟩:=look hfr.1;rcases q with ⟨k,_⟩ | ⟨_,c',e',z⟩
  ·have k:X.env.scope.names.lookup y=some .local:=k;rcases ok.free _ (PySem.mem_of_lookup hfr.1) rfl with k' | k'<;>rw[show X.env.scope.names.lookup y=_ from k'] at k<;>cases k
  ·rw[h2] at e';cases e';exact⟨c,h1,z.keeps kp⟩
 ·have e:cenv.cells.lookup y=some c:=e;rcases mem e with ⟨h1,_⟩ | ⟨_,z⟩
  ·obtain⟨w,z⟩:=I.cell y c h1;exact⟨w,z.keeps kp⟩
  ·exact⟨_,z⟩
 ·show H cenv.locals=none;rw[hL];exact I.hok.fresh (KG _)
 ·have e:cenv.cells.lookup y=some c:=e;rcases mem e with ⟨h1,_⟩ | ⟨h1,_⟩
  ·exact I.freeC y c h1
  ·exact I.hok.fresh (Nat.le_of_succ_le h1)
 ·exact absurd (show p∈([]:List (Addr×Obj))++[] from hp) (by simp)
theorem GD{E:Value->Shared->Prop}{D:Addr}{xs:List V}{y:V}{v:Value}{Q:Value->Shared->Prop}(I:aM X pins σ H s)(hD:H D=some (.lst xs))(hz:xs.length < sizeLine)(r:bg y v)
  (h:∀s',aM X pins σ (upd H D (.lst (xs++[y]))) s'->Q .none s'):wpAny (model X.prog X.w) X.A (call (.builtin "list.append") [.ref D,v]) Q E s:=by
 obtain⟨hz',its,n,ri,e⟩:=I.hok D _ hD;have hl:=ri.length;refine append_at (hsz:=by rw[KW];omega) e fun h' sb ho'=>?_
 refine h {s with heap:=h'} (I.write (t':=s.toks) (by rw[hD];trivial) (.inl rfl) (fun b u hb q=>(sb.2 b hb).trans q) ⟨_,ho'⟩ ⟨by rw[Ky];exact hz,its++[v],n+1,ri.append (.cons r .nil),?_⟩)
 rw[ho'];simp
def IK(X:Cx)(ifs:List Expr)(t:TT):Prop :=
 ∀(pins:List (Addr×Obj))(s:Shared)(σ:St)(H:Hp)(Q:Bool->Hp->Prop),aM X pins σ H s->t σ H Q →
  wpAny (model X.prog X.w) X.A (forIn ifs true fun c r=>if r=true then do let ok ←isTrue c X.env (eval c X.env);pure (ForInStep.yield ok) else pure (ForInStep.yield r)) (TP X pins σ Q) X.xe s
def Ir:TT:=fun _ H Q=>Q true H
theorem bP:IK X [] Ir:=fun _ _ _ H _ I h=>wpAny_tests_nil ⟨H,I,h⟩
theorem iN{c:Expr}{t:TT}(h:PT X c t):IK X [c] t:=fun pins s σ H Q I hw=>wpAny_tests_one (h pins s σ H Q I hw)
end
theorem BN{α:Type}{t:Sem α}{Q Q':α->Shared->Prop}{M:Model}{A:Around}{E:Value->Shared->Prop}{s:Shared}(h:wpAny M A t Q (fun _ _=>False) s)(hQ:∀a s,Q a s->Q' a s):wpAny M A t Q' E s:=wpAny_mono h hQ fun _ _ z=>False.elim z
theorem vC{prog:Program}{w:World}{A:Around}{R:Result->Shared->Prop}{s:Shared}{elt target iter:Expr}{ifs:List Expr}{scope:Scope}{pos:Pos}{it acc:Value}{env:Env}(I:Nat->Shared->Prop)
  (turn:∀n s,I n s->wpAny (model prog w) A (pyNext it) (fun r s₁=>match r with
   | none=>R (.ok .next) s₁
   | some v=>wpAny (model prog w) A (letOwnedTupleGo target it v) (fun _ s₁'=>wpAny (model prog w) A (assign target env v) (fun _ s₂ =>
     wpAny (model prog w) A (forIn ifs true fun c r=>if r=true then do let ok ←isTrue c env (eval c env);pure (ForInStep.yield ok) else pure (ForInStep.yield r)) (fun ok s₃ =>
      if ok=true then wpAny (model prog w) A (eval elt env) (fun x s₄ =>
       wpAny (model prog w) A (call (.builtin "list.append") [acc,x]) (fun _ s₅=>∃m,m < n∧I m s₅) (notedBy (model prog w) A env fun e s'=>R (.error e) s') s₄) (notedBy (model prog w) A env fun e s'=>R (.error e) s') s₃
      else ∃m,m < n∧I m s₃) (notedBy (model prog w) A env fun e s'=>R (.error e) s') s₂) (notedBy (model prog w) A env fun e s'=>R (.error e) s') s₁') (notedBy (model prog w) A env fun e s'=>R (.error e) s') s₁) (notedBy (model prog w) A env fun e s'=>R (.error e) s') s)
  (n:Nat)(h:I n s) :
  codeAny (model prog w) A (.compLoop (.ListComp elt [⟨target,iter,ifs,0⟩] scope pos) 0 it acc env) R s:=by
 refine codeAny_loop rfl I (fun n s hI=>?_) n h;show wpAny _ A ((compTurn (.ListComp elt [⟨target,iter,ifs,0⟩] scope pos) 0 it acc env).onRaise (fun x=>do noteFrame x env;theTreesLotGoes x)) _ _ s
 refine wpAny_noted ?_;rw[compTurn_list];refine wpAny_bind (wpAny_standAt (wpAny_bind (wpAny_mono (turn n s hI) (fun r s₁ h₁=>?_) fun _ _ h'=>h')));cases r with
 | none=>exact wpAny_pure h₁
 | some v =>
  refine wpAny_bind (wpAny_mono h₁ (fun _ s₁' h₁'=>?_) fun _ _ h'=>h');refine wpAny_bind (wpAny_mono h₁' (fun _ s₂ h₂=>wpAny_bind (wpAny_mono h₂ (fun ok s₃ h₃=>?_) fun _ _ h'=>h')) fun _ _ h'=>h');cases ok with
  | false=>exact wpAny_pure ⟨rfl,h₃⟩
  | true =>
   exact wpAny_bind (wpAny_bind (wpAny_mono h₃ (fun x s₄ h₄=>wpAny_bind (wpAny_mono h₄ (fun _ s₅ h₅=>wpAny_pure (wpAny_pure ⟨rfl,h₅⟩)) fun _ _ h'=>h')) fun _ _ h'=>h'))
section
variable{X:Cx}
def ID(wi:TI)(g:TG)(tt:TT)(te:TE)(vs:List Nat):TE:=fun σ H Q=>wi σ H fun J H1=>∀D,H1 D=none->∃W:Nat->Nat->Hp->Prop,(∃m,W 0 m (upd H1 D (.lst [])))∧∀i m H,W i m H →
 (J.stop i H∧Q (.ref D) H)∨(J.go i H∧∃Nx:Hp->Prop,(∀H',Nx H'->∃m',m' < m∧W (i+1) m' H')∧∀x H',J.yld i H x H'->g x (bJ σ vs) H' fun σ2 H2=>bJ σ2 vs=bJ σ vs∧tt σ2 H2 fun b H3 =>
  if b=true then te σ2 H3 fun y H4=>∃acc,H4 D=some (.lst acc)∧acc.length < sizeLine∧Nx (upd H4 D (.lst (acc++[y]))) else Nx H3)
theorem AG{pins:List (Addr×Obj)}{s:Shared}{σ:St}{H:Hp}{Q:VK}{elt tg iter:Expr}{ifs:List Expr}{scope:Scope}{own:List (Str×Nat)}{pos pos':Pos}{wi:TI}{g:TG}{tt:TT}{te:TE}{use:Option (Value->Sem Unit)}{Qf:Value->Shared->Prop}
  (hc:X.calm=true)(hN:X.N.Nodup)(I:aM X pins σ H s)(hi:PI X tg iter wi)(ok:y3 X.N X.env.scope scope own)
  (hg:∀(s:Shared) (H:Hp) (C:Addr) (cl:List (Str×Addr)) (fp:List Addr),PG (X.blk s H scope (compEnvC scope cl C X.env) fp) tg g)(ht:∀(s:Shared) (H:Hp) (C:Addr) (cl:List (Str×Addr)) (fp:List Addr),IK (X.blk s H scope (compEnvC scope cl C X.env) fp) ifs tt)
  (he:∀(s:Shared) (H:Hp) (C:Addr) (cl:List (Str×Addr)) (fp:List Addr),PE (X.blk s H scope (compEnvC scope cl C X.env) fp) elt te)(hs:∀x,foldedSetIterable iter X.env x=pure x)
  (h:ID wi g tt te (own.map (·.2)) σ H Q)
  (hRR:∀D C s' m H',aM X pins σ H' s'->Q (.ref D) H'->s'.heap.Ns C m->jr X pins H' C->compPost (model X.prog X.w) X.A X.xe use Qf (.ref D) C (.ok .next) s') :
  wpAny (model X.prog X.w) X.A (comprehension (.ListComp elt [⟨tg,iter,ifs,0⟩] scope pos) scope X.env pos' (newList []) false (eval iter X.env) use) Qf X.xe s:=by
 have hfree:∀y∈scope.names,y.2=.free->∃c,X.env.cells.lookup y.1=some c:=fun y hy e=>by
  rcases ok.free y hy e with k | k
  ·exact I.ok.has _ (.inl k)
  ·exact I.ok.has _ (.inr k)
 refine wpAny_comprehension_free (use:=use) rfl hs (zb hfree) ok.kind (fun y hy e=>by rw[ok.uniq y hy,e])
  (bE (hi pins s σ H _ I h) fun xv s1 hx=>bE hx fun itv s2 h2=>?_)
 obtain⟨it,fp,tn,J,H2,e,I2,T,st2,f2,q⟩:=h2;subst e;refine wpAny_newObj_type (wR ?_) (by show 0≤sizeLine;decide)
 generalize hD:s2.heap.objs.size=D;have hDn:H2 D=none:=I2.hok.fresh (LU hD);obtain⟨W,⟨m0,w0⟩,turn⟩:=q D hDn;generalize hs3:({s2 with heap:=s2.heap.push {cls:=.type "list",data:=.seq ([]:List Value).toArray}}:Shared)=s3
 have I3:aM X pins σ (upd H2 D (.lst [])) s3:=by
  rw[←hs3];refine I2.laid (t':=s2.toks) (fun b o e=>KB _ e) (LU hD) ⟨KZ _,[],0,.nil,?_⟩;rw[←hD];exact KD _ rfl
 have h3:s3.heap=s2.heap.push {cls:=.type "list",data:=.seq ([]:List Value).toArray}:=by rw[←hs3]
 have sz:∀b∈fp,b < s2.heap.objs.size:=fun b hb=>by
  obtain⟨o,e,_⟩:=T.obj _ _ st2 b hb;exact KC e
 have f3:∀b∈fp,jr X pins (upd H2 D (.lst [])) b∧b < s3.heap.objs.size:=fun b hb=>by
  have hlt:=sz b hb;refine⟨⟨?_,(f2 b hb).2⟩,by rw[h3,LP];exact Nat.lt_succ_of_lt hlt⟩
  rw[ak (by rw[←hD];exact Lj hlt)]
  exact(f2 b hb).1
 have st3:tn 0 s3.heap:=T.keep _ _ _ st2 fun b _ o e=>by rw[h3];exact KB _ e
 have I4:=xR I3 ok hN f3;have pg:=hg s3 (upd H2 D (.lst [])) s3.heap.objs.size (cellsFrom (s3.heap.objs.size+1) scope.names (bO X.env.cells scope.names [])) fp;have pt:=ht s3 (upd H2 D (.lst [])) s3.heap.objs.size (cellsFrom (s3.heap.objs.size+1) scope.names (bO X.env.cells scope.names [])) fp;have pe:=he s3 (upd H2 D (.lst [])) s3.heap.objs.size (cellsFrom (s3.heap.objs.size+1) scope.names (bO X.env.cells scope.names [])) fp;show codeAny _ _ (.compStart (.ListComp elt [⟨tg,iter,ifs,0⟩] scope pos) 0 (.ref it) (.ref D) (compEnvC scope (cellsFrom (s3.heap.objs.size+1) scope.names (bO X.env.cells scope.names [])) s3.heap.objs.size X.env)) (compPost (model X.prog X.w) X.A X.xe use Qf (.ref D) s3.heap.objs.size) {s3 with heap:=pushCells (s3.heap.push {cls:=.type "dict",data:=.dict #[]}) scope.names}
 have nfp:∀b∈fp,(upd H2 D (.lst [])) b=none:=fun b hb=>(f3 b hb).1.1;generalize hce:compEnvC scope (cellsFrom (s3.heap.objs.size+1) scope.names (bO X.env.cells scope.names [])) s3.heap.objs.size X.env=ce at I4 pg pt pe ⊢;have cL:ce.locals=s3.heap.objs.size:=by subst hce;rfl
 generalize hH3:upd H2 D (.lst [])=H3 at I3 I4 pg pt pe w0 nfp f3;generalize hs4:({s3 with heap:=pushCells (s3.heap.push {cls:=.type "dict",data:=.dict #[]}) scope.names}:Shared)=s4 at I4 ⊢
 have st4:tn 0 s4.heap:=T.keep _ _ _ st3 fun b _ o e=>by rw[←hs4];exact pushCells_keeps _ _ _ _ (KB _ e)
 have stat:∀{σ':St}{H':Hp}{s':Shared},aM (X.blk s3 H3 scope ce fp) [] σ' H' s'->(∀b∈fp,H' b=none)->∀b∈fp,jr (X.blk s3 H3 scope ce fp) [] H' b:=fun{σ' H' s'} I' hn b hb =>
  ⟨hn b hb,(I'.ok.exf b hb).1,I'.ok.exfs b hb,.inl hb,fun x c e=>(I'.ok.exf b hb).2 x c e,fun p hp=>absurd (show p∈([]:List (Addr×Obj))++[] from hp) (by simp)⟩
 have loop:codeAny (model X.prog X.w) X.A (.compLoop (.ListComp elt [⟨tg,iter,ifs,0⟩] scope pos) 0 (.ref it) (.ref D) ce) (compPost (model X.prog X.w) X.A X.xe use Qf (.ref D) s3.heap.objs.size) s4:=by
  refine vC (fun n s'=>∃i H',aM (X.blk s3 H3 scope ce fp) [] (bJ σ (own.map (·.2))) H' s'∧tn i s'.heap∧(∀b∈fp,H' b=none)∧W i n H') ?_ m0 ⟨0,H3,I4,st4,nfp,w0⟩;rintro n s5 ⟨i,H5,I5,st5,n5,w5⟩;rcases turn i n H5 w5 with ⟨stop,qq⟩ | ⟨go,Nx,hNx,step⟩
  ·have td:=T.done (X.blk s3 H3 scope ce fp) rfl rfl rfl hc i [] s5 _ H5 (fun _ _=>False) I5 (stat I5 n5) st5 stop;refine BN td fun r s6 ⟨hr,I6⟩=>?_;subst hr;have I7:aM X pins σ H5 s6:=I3.call' (ch:=fp) I6.os I6.base I6.hok I6.bare fun b hb=>⟨(f3 b hb).1.2.2.2.1,(f3 b hb).1.2.1,(f3 b hb).1.2.2.2.2.1,(f3 b hb).1.2.2.2.2.2⟩
   have nC:H5 s3.heap.objs.size=none:=by
    have z:H5 ce.locals=none:=I6.free;rw[cL] at z;exact z
   obtain⟨m,hn,_⟩:=I6.loc;have hn:s6.heap.Ns ce.locals m:=hn;rw[cL] at hn;exact hRR D s3.heap.objs.size s6 m H5 I7 qq hn (I3.fpOk (KG _) nC)
  ·have ti:=T.item (X.blk s3 H3 scope ce fp) rfl rfl rfl hc i [] s5 _ H5 (fun _ _=>False) I5 (stat I5 n5) st5 go;refine BN ti fun r s6 ⟨u,hr,h6⟩=>?_;subst hr;refine BN h6 fun _ s7 ⟨x,H7,I7,r7,y7,st7,n7⟩=>?_;have I7':=I7.pinned (stat I7 n7) (T.obj _ _ st7);refine BN (pg _ s7 _ H7 x u _ I7' r7 (step x H7 y7)) fun _ s8 ⟨σ8,H8,I8,hw8,q8⟩=>?_;refine BN (pt _ s8 σ8 H8 _ I8 q8) fun b s9 ⟨H9,I9,q9⟩=>?_
   have fin:∀{s':Shared}{H':Hp},aM (X.blk s3 H3 scope ce fp) ([]++qg fp s7.heap) σ8 H' s'->Nx H'->∃m,m < n∧∃i H',aM (X.blk s3 H3 scope ce fp) [] (bJ σ (own.map (·.2))) H' s'∧tn i s'.heap∧(∀b∈fp,H' b=none)∧W i m H':=fun{s' H'} I' nx=>by
    obtain⟨m',hm,w'⟩:=hNx H' nx
    have pin':∀b∈fp,∀o,s7.heap.get? b=some o->s'.heap.get? b=some o∧H' b=none:=fun b hb o e =>
     let z:=I'.pin (b,o) (List.mem_append_right _ (List.mem_append_right _ (lQ hb e)))
     ⟨z.1,z.2.1⟩
    have hl:(bJ σ (own.map (·.2))).length=σ8.length:=by rw[←hw8,jP]
    refine⟨m',hm,i+1,H',(I'.unpinned (pins:=[])).weak hl (fun j v e=>?_),T.keep _ _ _ st7 fun b hb o e=>(pin' b hb o e).1,fun b hb=>?_,w'⟩
    ·rw[←hw8] at e;exact(nZ e).1
    ·obtain⟨o,e,_⟩:=T.obj _ _ st7 b hb;exact(pin' b hb o e).2
   cases b with
   | false =>
    simp only[Bool.false_eq_true,if_false] at q9 ⊢;exact fin I9 q9
   | true =>
    simp only[if_true] at q9 ⊢;refine BN (pe _ s9 σ8 H9 _ I9 q9) fun z s10 ⟨yv,H10,I10,r10,acc,hD10,hz10,nx⟩=>?_;exact GD (X:=X.blk s3 H3 scope ce fp) I10 hD10 hz10 r10 fun s11 I11=>fin I11 nx
 exact codeAny_compStart_list loop (T.self X.A 0 _ _ _ st4 loop)
theorem du{elt tg iter:Expr}{ifs:List Expr}{scope:Scope}{own:List (Str×Nat)}{pos:Pos}{wi:TI}{g:TG}{tt:TT}{te:TE}(hc:X.calm=true)(hN:X.N.Nodup)(hi:PI X tg iter wi)(ok:y3 X.N X.env.scope scope own)
  (hg:∀(s:Shared) (H:Hp) (C:Addr) (cl:List (Str×Addr)) (fp:List Addr),PG (X.blk s H scope (compEnvC scope cl C X.env) fp) tg g)(ht:∀(s:Shared) (H:Hp) (C:Addr) (cl:List (Str×Addr)) (fp:List Addr),IK (X.blk s H scope (compEnvC scope cl C X.env) fp) ifs tt)
  (he:∀(s:Shared) (H:Hp) (C:Addr) (cl:List (Str×Addr)) (fp:List Addr),PE (X.blk s H scope (compEnvC scope cl C X.env) fp) elt te)(hs:∀x,foldedSetIterable iter X.env x=pure x:=by intro _;rfl) :
  PE X (.ListComp elt [⟨tg,iter,ifs,0⟩] scope pos) (ID wi g tt te (own.map (·.2))):=by
 intro pins s σ H Q I h;rw[eval_ListComp];refine AG hc hN I hi ok hg ht he hs h fun D C s' m H' I' q hn f=>⟨m,hn,fun h'' sb=>?_⟩;obtain⟨f0,f1,f2,f3,f4,f5⟩:=f;exact⟨.ref D,H',I'.turned (t':=s'.toks) (fun b o hb e=>(sb.2 b hb).trans e) f0 f1 f3 f4 f5,rfl,q⟩
theorem mC{i:Nat}{y:Str}{py:Pos}{elt tg iter:Expr}{ifs:List Expr}{scope:Scope}{own:List (Str×Nat)}{pos spos:Pos}{wi:TI}{g:TG}{tt:TT}{te:TE}(hc:X.calm=true)(hN:X.N.Nodup)(hy:X.N[i]?=some y)(hyl:X.env.scope.names.lookup y=some .local)
  (hsw:swapsWith (.ListComp elt [⟨tg,iter,ifs,0⟩] scope pos) (some (.Name y py)) spos.line X.env=pure true)(hi:PI X tg iter wi)(ok:y3 X.N X.env.scope scope own)
  (hg:∀(s:Shared) (H:Hp) (C:Addr) (cl:List (Str×Addr)) (fp:List Addr),PG (X.blk s H scope (compEnvC scope cl C X.env) fp) tg g)(ht:∀(s:Shared) (H:Hp) (C:Addr) (cl:List (Str×Addr)) (fp:List Addr),IK (X.blk s H scope (compEnvC scope cl C X.env) fp) ifs tt)
  (he:∀(s:Shared) (H:Hp) (C:Addr) (cl:List (Str×Addr)) (fp:List Addr),PE (X.blk s H scope (compEnvC scope cl C X.env) fp) elt te)(hs:∀x,foldedSetIterable iter X.env x=pure x:=by intro _;rfl) :
  PS X (.Assign [.Name y py] (.ListComp elt [⟨tg,iter,ifs,0⟩] scope pos) spos) (BZ (ID wi g tt te (own.map (·.2))) (eI i)):=by
 intro pins s σ H D I h;rw[exec_Assign_Name_used _ _ _ _ hsw];refine wpAny_bind (wpAny_standAt (wpAny_bind ?_));show wpAny _ X.A (do let _ ←comprehension (.ListComp elt [⟨tg,iter,ifs,0⟩] scope pos) scope X.env (firstIterPos [⟨tg,iter,ifs,0⟩] pos) (newList []) false (eval iter X.env) (some (assign (.Name y py) X.env))) _ _ s
 have h:ID wi g tt te (own.map (·.2)) σ H (fun x H1=>eI i x σ H1 D.nx):=h;refine wpAny_bind (bE (AG (Qf:=fun _ s'=>SP X pins D .next s') hc hN I hi ok hg ht he hs h fun L C s' m H' I' q hn f=>?_) fun _ s' hq=>wpAny_pure (wpAny_pure hq));show wpAny _ _ (assign (.Name y py) X.env (.ref L)) _ _ _;refine wpAny_assign_Name (ue (v:=V.ref L) I' hN hy (.inl hyl) rfl (fun s2 I2 ⟨a,sb,ha⟩=>?_) (.inr hyl));obtain⟨f0,f1,f2,f3,f4,f5⟩:=f
 have haC:C≠a:=by
  rcases ha with z | z
  ·rw[z];exact f1
  ·exact fun e=>f4 y a z e.symm
 refine⟨m,hn.sameBut sb haC,fun h3 sb3=>?_⟩;exact⟨_,H',I2.turned (t':=s2.toks) (fun b o hb e=>(sb3.2 b hb).trans e) f0 f1 f3 f4 f5,q⟩
theorem pK{elt:Expr}{gs:List Comprehension}{scope:Scope}{pos py:Pos}{y:Str}{l:Nat}{env:Env}(hk:env.scope.kind=.function)(hy:env.scope.names.lookup y=some .local)(hl:(py.line==pos.line)=true)
  (ha:(scope.names.any fun(n,k)=>n==y&&(k==.local||k==.cell))=false):swapsWith (.ListComp elt gs scope pos) (some (.Name y py)) l env=pure true:=by
 have ky:env.kindOf y=some .local:=hy;have hb:env.blockKind=.function:=by unfold Env.blockKind;rw[hk];rfl
 unfold swapsWith;simp only[hb,ky,ha,Expr.pos,hl];rfl
end
theorem wW{lo:Int}{n:Nat}{g:TG}{tt:TT}{te:TE}{vs:List Nat}{σ:St}{H1:Hp}{D:Addr}{Qd:Hp->Prop}(Pv:Nat->Hp->Prop)(h0:Pv 0 (upd H1 D (.lst [])))
  (hs:∀i H,i < n->Pv i H->g (.int (lo+i)) (bJ σ vs) H fun σ2 H2=>bJ σ2 vs=bJ σ vs∧tt σ2 H2 fun b H3 =>
   if b=true then te σ2 H3 fun y H4=>∃acc,H4 D=some (.lst acc)∧acc.length < sizeLine∧Pv (i+1) (upd H4 D (.lst (acc++[y]))) else Pv (i+1) H3)(hd:∀H,Pv n H->Qd H) :
  ∃W:Nat->Nat->Hp->Prop,(∃m,W 0 m (upd H1 D (.lst [])))∧∀i m H,W i m H →
   ((Fn lo n).stop i H∧Qd H)∨((Fn lo n).go i H∧∃Nx:Hp->Prop,(∀H',Nx H'->∃m',m' < m∧W (i+1) m' H')∧∀x H',(Fn lo n).yld i H x H'->g x (bJ σ vs) H' fun σ2 H2=>bJ σ2 vs=bJ σ vs∧tt σ2 H2 fun b H3 =>
    if b=true then te σ2 H3 fun y H4=>∃acc,H4 D=some (.lst acc)∧acc.length < sizeLine∧Nx (upd H4 D (.lst (acc++[y]))) else Nx H3):=by
 refine⟨fun i m H=>m=n - i∧i≤n∧Pv i H,⟨n,by simp,KZ _,h0⟩,?_⟩
 rintro i m H ⟨rfl,hi,p⟩
 by_cases hlt:i < n
 ·refine .inr ⟨hlt,Pv (i+1),fun H' p'=>⟨n - (i+1),by omega,rfl,hlt,p'⟩,fun x H' y=>?_⟩
  obtain⟨e,y⟩:=y;subst e y;exact hs i _ hlt p
 ·have e:i=n:=by omega
  subst e;exact .inl ⟨KG _,hd H p⟩
theorem cj{K:Frag}{a:Addr}{xs:List V}{g:TG}{tt:TT}{te:TE}{vs:List Nat}{σ:St}{H1:Hp}{D:Addr}{Qd:Hp->Prop}(Pv:Nat->Hp->Prop)(h0:Pv 0 (upd H1 D (.lst [])))(hl:∀i H,i≤xs.length->Pv i H->aH K H a xs)
  (hs:∀i x H,xs[i]?=some x->Pv i H->g x (bJ σ vs) H fun σ2 H2=>bJ σ2 vs=bJ σ vs∧tt σ2 H2 fun b H3 =>
   if b=true then te σ2 H3 fun y H4=>∃acc,H4 D=some (.lst acc)∧acc.length < sizeLine∧Pv (i+1) (upd H4 D (.lst (acc++[y]))) else Pv (i+1) H3)(hd:∀H,Pv xs.length H->Qd H) :
  ∃W:Nat->Nat->Hp->Prop,(∃m,W 0 m (upd H1 D (.lst [])))∧∀i m H,W i m H →
   ((FW K a).stop i H∧Qd H)∨((FW K a).go i H∧∃Nx:Hp->Prop,(∀H',Nx H'->∃m',m' < m∧W (i+1) m' H')∧∀x H',(FW K a).yld i H x H'->g x (bJ σ vs) H' fun σ2 H2=>bJ σ2 vs=bJ σ vs∧tt σ2 H2 fun b H3 =>
    if b=true then te σ2 H3 fun y H4=>∃acc,H4 D=some (.lst acc)∧acc.length < sizeLine∧Nx (upd H4 D (.lst (acc++[y]))) else Nx H3):=by
 refine⟨fun i m H=>m=xs.length - i∧i≤xs.length∧Pv i H,⟨xs.length,by simp,KZ _,h0⟩,?_⟩
 rintro i m H ⟨rfl,hi,p⟩;have q:=hl i H hi p
 by_cases hlt:i < xs.length
 ·refine .inr ⟨⟨xs,xs[i],q,by simp[hlt]⟩,Pv (i+1),fun H' p'=>⟨xs.length - (i+1),by omega,rfl,hlt,p'⟩,fun x H' y=>?_⟩
  obtain⟨e,y⟩:=y;subst e;exact hs i x _ (y xs q) p
 ·have e:i=xs.length:=by omega
  subst e;exact .inl ⟨⟨xs,q,KG _⟩,hd H p⟩
theorem GL{K:Frag}{a:Addr}{xs:List V}{g:TG}{tt:TT}{te:TE}{vs:List Nat}{σ:St}{H1:Hp}{D:Addr}{Qd:Hp->Prop}(Pv:Nat->Hp->Prop)(h0:Pv 0 (upd H1 D (.lst [])))(hl:∀i H,i≤xs.length->Pv i H->eB K H a xs)
  (hs:∀i x H,xs[i]?=some x->Pv i H->g x (bJ σ vs) H fun σ2 H2=>bJ σ2 vs=bJ σ vs∧tt σ2 H2 fun b H3 =>
   if b=true then te σ2 H3 fun y H4=>∃acc,H4 D=some (.lst acc)∧acc.length < sizeLine∧Pv (i+1) (upd H4 D (.lst (acc++[y]))) else Pv (i+1) H3)(hd:∀H,Pv xs.length H->Qd H) :
  ∃W:Nat->Nat->Hp->Prop,(∃m,W 0 m (upd H1 D (.lst [])))∧∀i m H,W i m H →
   ((FZ K a).stop i H∧Qd H)∨((FZ K a).go i H∧∃Nx:Hp->Prop,(∀H',Nx H'->∃m',m' < m∧W (i+1) m' H')∧∀x H',(FZ K a).yld i H x H'->g x (bJ σ vs) H' fun σ2 H2=>bJ σ2 vs=bJ σ vs∧tt σ2 H2 fun b H3 =>
    if b=true then te σ2 H3 fun y H4=>∃acc,H4 D=some (.lst acc)∧acc.length < sizeLine∧Nx (upd H4 D (.lst (acc++[y]))) else Nx H3):=by
 refine⟨fun i m H=>m=xs.length - i∧i≤xs.length∧Pv i H,⟨xs.length,by simp,KZ _,h0⟩,?_⟩
 rintro i m H ⟨rfl,hi,p⟩;have q:=hl i H hi p
 by_cases hlt:i < xs.length
 ·refine .inr ⟨⟨xs,xs[i],q,by simp[hlt]⟩,Pv (i+1),fun H' p'=>⟨xs.length - (i+1),by omega,rfl,hlt,p'⟩,fun x H' y=>?_⟩
  obtain⟨e,y⟩:=y;subst e;exact hs i x _ (y xs q) p
 ·have e:i=xs.length:=by omega
  subst e;exact .inl ⟨⟨xs,q,KG _⟩,hd H p⟩
def IG(N:List Str)(sc scope:Scope)(own:List (Str×Nat)):Bool :=
 (match scope.kind with | .function=>true | _=>false)&&(scope.names.all fun y=>decide (scope.names.lookup y.1=some y.2))&&(own.all fun p=>decide (N[p.2]?=some p.1)) &&
  (scope.names.all fun y=>match y.2 with
   | .free=>(match sc.names.lookup y.1 with | some .cell=>true | some .free=>true | _=>false)
   | .local=>decide (y.1∈own.map (·.1))||decide (y.1∉N)
   | .cell=>decide (y.1∈own.map (·.1))||decide (y.1∉N)
   | _=>true)
theorem ba{N:List Str}{sc scope:Scope}{own:List (Str×Nat)}(h:IG N sc scope own=true):y3 N sc scope own:=by
 unfold IG at h;simp only[L7,List.all_eq_true,decide_eq_true_eq] at h;obtain⟨⟨⟨h1,h2⟩,h3⟩,h4⟩:=h;refine⟨?_,h2,h3,fun y hy e=>?_,fun y hy e=>?_⟩
 ·split at h1
  ·assumption
  ·cases h1
 ·have q:=h4 y hy;simp only[e] at q
  split at q<;>first | exact .inl (by assumption) | exact .inr (by assumption) | cases q
 ·have q:=h4 y hy;rcases e with e | e<;>(simp only[e,Bool.or_eq_true,decide_eq_true_eq] at q;exact q)
section
variable{κ:Type}[DecidableEq κ]
def dR(kvs:List (κ×V))(k:κ):Option V:=(kvs.find? fun kv=>decide (kv.1=k)).map (·.2)
def dF(kvs:List (κ×V))(k:κ)(v:V):List (κ×V) :=
 if(kvs.any fun kv=>decide (kv.1=k))=true then kvs.map (fun kv=>if kv.1=k then(kv.1,v) else kv) else kvs++[(k,v)]
theorem cZ{p:κ×V}{r:List (κ×V)}{k:κ}(e:p.1=k):dR (p::r) k=some p.2:=by simp[dR,List.find?_cons,e]
theorem d5{p:κ×V}{r:List (κ×V)}{k:κ}(e:¬p.1=k):dR (p::r) k=dR r k:=by simp[dR,List.find?_cons,e]
theorem kb(k:κ):∀kvs:List (κ×V),(kvs.any fun kv=>decide (kv.1=k))=(dR kvs k).isSome
 | []=>rfl
 | p::r=>by
  rw[List.any_cons]
  by_cases e:p.1=k
  ·simp only[cZ e,Ll e,Bool.true_or,Option.isSome_some]
  ·rw[d5 e,Ln e,Bool.false_or];exact kb k r
theorem y2(k j:κ)(y:V):∀kvs:List (κ×V),dR (kvs.map fun kv=>if kv.1=k then(kv.1,y) else kv) j=(dR kvs j).map fun x=>if j=k then y else x
 | []=>rfl
 | p::r=>by
  have ih:=y2 k j y r;rw[KR]
  by_cases h:p.1=k
  ·rw[if_pos h]
   by_cases e:p.1=j
   ·rw[cZ (p:=(p.1,y)) e,cZ e,Option.map_some,if_pos (e.symm.trans h)]
   ·rw[d5 (p:=(p.1,y)) e,d5 e,ih]
  ·rw[if_neg h]
   by_cases e:p.1=j
   ·rw[cZ (p:=p) e,cZ e,Option.map_some,if_neg (fun z=>h (e.trans z))]
   ·rw[d5 (p:=p) e,d5 e,ih]
theorem tJ(k j:κ)(y:V):∀kvs:List (κ×V),dR kvs k=none->dR (kvs++[(k,y)]) j=if j=k then some y else dR kvs j
 | [],_=>by
  by_cases e:k=j
  ·rw[if_pos e.symm];exact cZ (p:=(k,y)) e
  ·rw[if_neg (fun z=>e z.symm)];exact d5 (p:=(k,y)) e
 | p::r,hn=>by
  rw[List.cons_append];have hk:¬p.1=k:=fun z=>by rw[cZ z] at hn;cases hn
  rw[d5 hk] at hn;have ih:=tJ k j y r hn
  by_cases e:p.1=j
  ·rw[cZ e,cZ e,if_neg (fun z=>hk (e.trans z))]
  ·rw[d5 e,d5 e,ih]
theorem DU(kvs:List (κ×V))(k j:κ)(y:V):dR (dF kvs k y) j=if j=k then some y else dR kvs j:=by
 unfold dF
 by_cases a:(kvs.any fun kv=>decide (kv.1=k))=true
 ·rw[if_pos a,y2];rw[kb] at a
  by_cases e:j=k
  ·obtain⟨x,hx⟩:=Option.isSome_iff_exists.mp a;rw[if_pos e,e,hx,Option.map_some,if_pos rfl]
  ·rw[if_neg e];cases dR kvs j with
   | none=>rfl
   | some x=>rw[Option.map_some,if_neg e]
 ·rw[if_neg a];refine tJ k j y kvs ?_;rw[kb] at a;cases q:dR kvs k with
  | none=>rfl
  | some x=>rw[q] at a;exact(a rfl).elim
theorem jX(kvs:List (κ×V))(k:κ)(v:V):(dF kvs k v).length≤kvs.length+1:=by
 unfold dF
 split
 ·rw[Kv];omega
 ·rw[Ky,Kx,L0];omega
theorem x6{kvs:List (κ×V)}{k:κ}(v:V)(h:dR kvs k=none):dF kvs k v=kvs++[(k,v)]:=by
 unfold dF;rw[kb,h];exact if_neg (by decide)
theorem gD.isSome_eq{o:Option V}{u:Option Value}(r:gD o u):o.isSome=u.isSome:=by
 cases o with
 | none=>cases u with
  | none=>rfl
  | some _=>exact(show False from r).elim
 | some _=>cases u with
  | none=>exact(show False from r).elim
  | some _=>rfl
theorem gD.getD{o:Option V}{u:Option Value}{d:V}{d':Value}(r:gD o u)(rd:bg d d'):bg (o.getD d) (u.getD d'):=by
 cases o with
 | none=>cases u with
  | none=>exact rd
  | some _=>exact(show False from r).elim
 | some _=>cases u with
  | none=>exact(show False from r).elim
  | some _=>exact r
theorem KV.val{kvs:List (κ×V)}{vs:List (κ×Value)}(r:KV kvs vs)(k:κ):gD (dR kvs k) (valueAt vs k):=by
 unfold KV at r
 induction r with
 | nil=>exact True.intro
 | @cons p q ps qs h t ih =>
  obtain⟨h1,h2⟩:=h
  by_cases e:p.1=k
  ·have e':q.1=k:=h1.symm.trans e;have b:valueAt (q::qs) k=some q.2:=by simp[valueAt,List.find?_cons,e']
   rw[cZ e,b];exact h2
  ·have e':¬q.1=k:=fun z=>e (h1.trans z);have b:valueAt (q::qs) k=valueAt qs k:=by simp[valueAt,List.find?_cons,e']
   rw[d5 e,b];exact ih
theorem KV.any{kvs:List (κ×V)}{vs:List (κ×Value)}(r:KV kvs vs)(k:κ):(kvs.any fun kv=>decide (kv.1=k))=vs.any fun kv=>decide (kv.1=k):=by
 unfold KV at r
 induction r with
 | nil=>rfl
 | cons h t ih=>rw[List.any_cons,List.any_cons,ih,h.1]
theorem KV.repl{kvs:List (κ×V)}{vs:List (κ×Value)}(r:KV kvs vs)(k:κ){y:V}{u:Value}(ry:bg y u) :
  KV (kvs.map fun kv=>if kv.1=k then(kv.1,y) else kv) (vs.map fun kv=>if kv.1=k then(kv.1,u) else kv):=by
 unfold KV at r ⊢
 induction r with
 | nil=>exact .nil
 | @cons p q ps qs h t ih =>
  rw[KR,KR];refine .cons ?_ ih;obtain⟨h1,h2⟩:=h
  by_cases e:p.1=k
  ·rw[if_pos e,if_pos (h1.symm.trans e)];exact⟨h1,ry⟩
  ·rw[if_neg e,if_neg (fun z=>e (h1.trans z))];exact⟨h1,h2⟩
theorem KV.put{kvs:List (κ×V)}{vs:List (κ×Value)}(r:KV kvs vs)(k:κ){y:V}{u:Value}(ry:bg y u):KV (dF kvs k y) (stored vs k u):=by
 unfold dF stored;rw[r.any k]
 by_cases e:(vs.any fun kv=>decide (kv.1=k))=true
 ·rw[if_pos e,if_pos e];exact r.repl k ry
 ·rw[if_neg e,if_neg e];exact Paired.snoc r ⟨rfl,ry⟩
theorem KV.length{kvs:List (κ×V)}{vs:List (κ×Value)}(r:KV kvs vs):kvs.length=vs.length:=Paired.length r
end
theorem tq{P:Program}{w:World}{k:di}{u:Value}(r:bg (kV k) u):(bN P w).is k u=true:=by
 cases k with
 | inl i=>obtain⟨t,e⟩:=(show ∃t,u=Value.int i t from r);subst e;exact wQ P w i t
 | inr x=>obtain⟨t,e⟩:=(show ∃t,u=Value.str x t from r);subst e;exact wz P w x t
theorem sY{P:Program}{w:World}:∀{ks:List di}{us:List Value},b8 (ks.map kV) us->ItemsAre (bN P w) ks us
 | [],_,r=>by rw[List.map_nil] at r;cases r;exact .nil
 | k::ks,_,r=>by
  rw[KR] at r;cases r with
  | cons h t=>exact .cons (tq h) (sY t)
abbrev KT(H:Hp):List (List di×V)->List (List di×Addr×Value)->Prop:=Paired fun p q=>p.1=q.1∧H q.2.1=some (.tup (p.1.map kV))∧bg p.2 q.2.2
theorem KT.val{H:Hp}{kvs:List (List di×V)}{xs:List (List di×Addr×Value)}(r:KT H kvs xs)(k:List di):gD (dR kvs k) ((atKey xs k).map (·.2)):=by
 induction r with
 | nil=>exact True.intro
 | @cons p q ps qs h t ih =>
  obtain⟨h1,_,h2⟩:=h
  by_cases e:p.1=k
  ·have e':q.1=k:=h1.symm.trans e;have b:atKey (q::qs) k=some q.2:=by simp[atKey,List.find?_cons,e']
   rw[cZ e,b];exact h2
  ·have e':¬q.1=k:=fun z=>e (h1.trans z);have b:atKey (q::qs) k=atKey qs k:=by simp[atKey,List.find?_cons,e']
   rw[d5 e,b];exact ih
theorem KT.repl{H:Hp}{kvs:List (List di×V)}{xs:List (List di×Addr×Value)}(r:KT H kvs xs)(k:List di){y:V}{u:Value}(ry:bg y u) :
  KT H (kvs.map fun kv=>if kv.1=k then(kv.1,y) else kv) (xs.map (putAt k u)):=by
 induction r with
 | nil=>exact .nil
 | @cons p q ps qs h t ih =>
  rw[KR,KR];refine .cons ?_ ih;obtain⟨h1,h2,h3⟩:=h;unfold putAt
  by_cases e:p.1=k
  ·rw[if_pos e,if_pos (h1.symm.trans e)];exact⟨h1,h2,ry⟩
  ·rw[if_neg e,if_neg (fun z=>e (h1.trans z))];exact⟨h1,h2,h3⟩
theorem KT.put{H:Hp}{kvs:List (List di×V)}{xs:List (List di×Addr×Value)}(r:KT H kvs xs)(k:List di){b:Addr}{y:V}{u:Value}(hb:H b=some (.tup (k.map kV)))(ry:bg y u) :
  KT H (dF kvs k y) (storedH xs k b u):=by
 have e:(kvs.any fun kv=>decide (kv.1=k))=(atKey xs k).isSome:=by
  rw[kb,(r.val k).isSome_eq,Option.isSome_map]
 unfold dF storedH;rw[e]
 by_cases q:(atKey xs k).isSome=true
 ·rw[if_pos q,if_pos q];exact r.repl k ry
 ·rw[if_neg q,if_neg q];exact Paired.snoc r ⟨rfl,hb,ry⟩
theorem KT.keeps{H H':Hp}{kvs:List (List di×V)}{xs:List (List di×Addr×Value)}(r:KT H kvs xs)(ht:∀b ys,H b=some (.tup ys)->H' b=some (.tup ys)):KT H' kvs xs :=
 Paired.mapP r fun _ _ z=>⟨z.1,ht _ _ z.2.1,z.2.2⟩
section
variable{P:Program}{w:World}{H:Hp}{h:Heap}{a:Addr}
theorem Gb{u:HO}(ok:fN P w H h)(e:Rd H a u):bB P w H h a u:=e.ok ok
theorem rp{kvs:List (di×V)}(ok:fN P w H h)(e:Rd H a (.dK kvs)):kvs.length≤sizeLine∧(a==sysModules)=false∧∃vs,KV kvs vs∧h.DictOf (bN P w) a vs :=
 show bB P w H h a (.dK kvs) from Gb ok e
theorem IT{kvs:List (di×V)}(ok:fN P w H h)(e:H a=some (.dK kvs)):kvs.length≤sizeLine∧(a==sysModules)=false∧∃vs,KV kvs vs∧h.DictOf (bN P w) a vs:=rp ok (.inl e)
theorem qH{ks:List di}(ok:fN P w H h)(e:H a=some (.tup (ks.map kV))):(tupleKind (bN P w)).is h ks a:=by
 obtain⟨_,its,r,o,h1,h2,n,h3⟩:=(show bB P w H h a (.tup (ks.map kV)) from ok a _ e)
 exact⟨o,its.toArray,n,h1,h2,h3,by simpa using sY r⟩
theorem uj{kvs:List (List di×V)}(ok:fN P w H h)(e:Rd H a (.dT kvs)):kvs.length≤sizeLine∧(a==sysModules)=false ∧
  ∃xs,KT H kvs xs∧h.DictOfH (tupleKind (bN P w)) a xs:=by
 obtain⟨z,y,xs,r,o,es,ep,h1,h2,h3,h4,h5⟩:=(show bB P w H h a (.dT kvs) from Gb ok e)
 refine⟨z,y,xs,r,o,es,ep,h1,h2,h3,h4,fun x hx=>?_,h5⟩
 have all:∀{l:List (List di×V)}{m:List (List di×Addr×Value)},KT H l m->∀x∈m,(tupleKind (bN P w)).is h x.1 x.2.1:=by
  intro l m q
  induction q with
  | nil=>intro x hx;exact nomatch hx
  | @cons p q ps qs hq t ih =>
   intro x hx;rcases List.mem_cons.mp hx with e | hx
   ·subst e;exact qH ok (by rw[←hq.1];exact hq.2.1)
   ·exact ih x hx
 exact all r x hx
theorem Iu{kvs:List (List di×V)}(ok:fN P w H h)(e:H a=some (.dT kvs)):kvs.length≤sizeLine∧(a==sysModules)=false ∧
  ∃xs,KT H kvs xs∧h.DictOfH (tupleKind (bN P w)) a xs:=uj ok (.inl e)
end
def kR(H:Hp)(a:Addr)(y:V)(r:Option V):Prop :=
 (∃kvs k,Rd H a (.dK kvs)∧y=kV k∧r=dR kvs k)∨∃kvs k b,Rd H a (.dT kvs)∧y=.ref b∧H b=some (.tup (k.map kV))∧r=dR kvs k
def pd(H:Hp)(a:Addr)(y v:V)(H':Hp):Prop :=
 (∃kvs k,H a=some (.dK kvs)∧y=kV k∧kvs.length < sizeLine∧H'=upd H a (.dK (dF kvs k v))) ∨
 ∃kvs k b,H a=some (.dT kvs)∧y=.ref b∧H b=some (.tup (k.map kV))∧kvs.length < sizeLine∧H'=upd H a (.dT (dF kvs k v))
theorem kR.k{H:Hp}{a:Addr}{kvs:List (di×V)}{k:di}(e:H a=some (.dK kvs)):kR H a (kV k) (dR kvs k):=.inl ⟨kvs,k,.inl e,rfl,rfl⟩
theorem kR.t{H:Hp}{a b:Addr}{kvs:List (List di×V)}{k:List di}(e:H a=some (.dT kvs))(eb:H b=some (.tup (k.map kV))):kR H a (.ref b) (dR kvs k):=.inr ⟨kvs,k,b,.inl e,rfl,eb,rfl⟩
theorem pd.k{H:Hp}{a:Addr}{kvs:List (di×V)}{k:di}{v:V}(e:H a=some (.dK kvs))(hl:kvs.length < sizeLine):pd H a (kV k) v (upd H a (.dK (dF kvs k v))):=.inl ⟨kvs,k,e,rfl,hl,rfl⟩
theorem pd.t{H:Hp}{a b:Addr}{kvs:List (List di×V)}{k:List di}{v:V}(e:H a=some (.dT kvs))(eb:H b=some (.tup (k.map kV)))(hl:kvs.length < sizeLine) :
  pd H a (.ref b) v (upd H a (.dT (dF kvs k v))):=.inr ⟨kvs,k,b,e,rfl,eb,hl,rfl⟩
section
variable{X:Cx}{pins:List (Addr×Obj)}{σ:St}{H:Hp}{s:Shared}{a:Addr}{y v:V}{u r:Value}{o:Option V}{A:Around}{E:Value->Shared->Prop}
theorem aM.big(I:aM X pins σ H s):sysModules < s.heap.objs.size:=by
 have h:mainGlobals < s.heap.objs.size:=(I.mod.glob.keeps I.bk).lt;exact Nat.lt_trans (by decide) h
theorem AX{Q:Value->Shared->Prop}(hu:A.units+1 < cLine)(I:aM X pins σ H s)(g:kR H a y (some v))(ry:bg y u)(h:∀w' s',aM X pins σ H s'->bg v w'->Q w' s') :
  wpAny (model X.prog X.w) A (getItem (.ref a) u) Q E s:=by
 rcases g with ⟨kvs,k,e,ey,l⟩ | ⟨kvs,k,b,e,ey,eb,l⟩
 ·subst ey;obtain⟨z,hd,vs,rel,dd⟩:=rp I.hok e;obtain⟨w',hw,rw'⟩:=gD.some_of (v:=v) (o:=valueAt vs k) (by rw[l];exact rel.val k)
  exact wpAny_getItem_of (tq ry) dd.mapOf hw (h w' _ (I.tok _) rw')
 ·subst ey;cases (show u=Value.ref b from ry)
  obtain⟨z,hd,xs,rel,dd⟩:=uj I.hok e;obtain⟨w',hw,rw'⟩:=gD.some_of (v:=v) (o:=(atKey xs k).map (·.2)) (by rw[l];exact rel.val k)
  obtain⟨p,hp,hp2⟩:=KF.mp hw;refine wpAny_getItem_heap (tupleKind_room_in1 hu) (qH I.hok eb) dd hp ?_;rw[hp2];exact h w' _ (I.tok _) rw'
theorem FR{Q:Value->Shared->Prop}(hu:A.units+1 < cLine)(I:aM X pins σ H s)(g:kR H a y o)(ry:bg y u)(h:∀s',aM X pins σ H s'->Q (.bool (!o.isSome)) s') :
  wpAny (model X.prog X.w) A (compareOp .NotIn u (.ref a)) Q E s:=by
 rcases g with ⟨kvs,k,e,ey,l⟩ | ⟨kvs,k,b,e,ey,eb,l⟩
 ·subst ey;obtain⟨z,hd,vs,rel,dd⟩:=rp I.hok e;refine wpAny_notIn_of (tq ry) hd dd.mapOf ?_;rw[←(rel.val k).isSome_eq,←l];exact h _ (I.tok _)
 ·subst ey;cases (show u=Value.ref b from ry)
  obtain⟨z,hd,xs,rel,dd⟩:=uj I.hok e;refine wpAny_notIn_heap (tupleKind_room_in1 hu) (qH I.hok eb) hd dd ?_;have q:=(rel.val k).isSome_eq;rw[Option.isSome_map] at q;rw[←q,←l];exact h _ (I.tok _)
theorem uv{h':Heap}{t':Nat}{ob:HO}(I:aM X pins σ H s)(mu:F9 (H a))(hs:Heap.SameBut a s.heap h')(he:∃q,h'.get? a=some q)(new:bB X.prog X.w (upd H a ob) h' a ob) :
  aM X pins σ (upd H a ob) {s with heap:=h',toks:=t'} :=
 I.write (x:=a) (e:=a) mu (.inl rfl) (fun b q hb z=>(hs.2 b hb).trans z) he new
theorem Hr{P:Program}{w:World}{H':Hp}{h':Heap}{kvs:List (di×V)}{vs:List (di×Value)}(z:kvs.length≤sizeLine)(hd:(a==sysModules)=false)(rel:KV kvs vs)(dd:h'.DictOf (bN P w) a vs) :
  bB P w H' h' a (.dK kvs):=⟨z,hd,vs,rel,dd⟩
theorem B2{H':Hp}{Q:Unit->Shared->Prop}(hu:A.units+1 < cLine)(I:aM X pins σ H s)(g:pd H a y v H')(ry:bg y u)(rv:bg v r)(h:∀s',aM X pins σ H' s'->Q () s') :
  wpAny (model X.prog X.w) A (setItem (.ref a) u r) Q E s:=by
 rcases g with ⟨kvs,k,e,ey,l,eH⟩ | ⟨kvs,k,b,e,ey,eb,l,eH⟩
 ·subst ey eH;obtain⟨z,hd,vs,rel,dd⟩:=IT I.hok e;have hz:vs.length≤sizeLine:=by rw[←rel.length];exact z
  have hl:(dF kvs k v).length≤sizeLine:=by have:=jX kvs k v;omega
  refine wpAny_setItem_pairs (hsz:=hz) (tq ry) dd fun h' dd' hs=>h _ ?_;have he:∃q,h'.get? a=some q:=let ⟨q,_,_,hq,_⟩:=dd';⟨q,hq⟩;exact uv I (by rw[e];exact True.intro) hs he (Hr hl hd (rel.put k rv) dd')
 ·subst ey eH;cases (show u=Value.ref b from ry)
  obtain⟨z,hd,xs,rel,dd⟩:=Iu I.hok e;have hz:xs.length≤sizeLine:=by rw[←Paired.length rel];exact z
  have hl:(dF kvs k v).length≤sizeLine:=by have:=jX kvs k v;omega
  refine wpAny_setItem_heap (hsz:=hz) (tupleKind_room_in1 hu) (qH I.hok eb) dd fun h' dd' hs=>h _ ?_;obtain⟨q,es,ep,hq,h2,h3,h4,_,h5⟩:=dd';refine uv I (by rw[e];exact True.intro) hs ⟨q,hq⟩ ⟨hl,hd,_,(rel.put k eb rv).keeps fun c ys ec=>?_,q,es,ep,hq,h2,h3,h4,h5⟩
  rw[ak (cK ec e (fun z=>nomatch z))];exact ec
end
section
variable{X:Cx}{pins:List (Addr×Obj)}{σ:St}{H:Hp}{s:Shared}{a:Addr}{kvs:List (di×V)}{k:di}{u:Value}{A:Around}{E:Value->Shared->Prop}
theorem HS{Q:Value->Shared->Prop}(I:aM X pins σ H s)(e:Rd H a (.dK kvs))(h:∀t s',aM X pins σ H s'->Q (.int kvs.length t) s'):wpAny (model X.prog X.w) A (call (.builtin "len") [.ref a]) Q E s:=by
 obtain⟨z,hd,vs,rel,dd⟩:=rp I.hok e;refine call_len_dict hd dd (by rw[←rel.length];rw[sizeLine_eq] at z;omega) ?_
 rw[←rel.length];exact h _ _ (I.tok _)
end
def Dd(i:Expr):Prop:=∀ov iv,subscripted i false ov iv=operate [ov,iv] (getItem ov iv)
theorem pZ{prog:Program}{w:World}{A:Around}{E:Value->Shared->Prop}{s:Shared}{env:Env}{value slice:Expr}{pos:Pos}{T id:String}{Q:Value->Shared->Prop}
  (hl:typeLookup (.type T) "__getitem__"=pure (some (.builtin id)))(hs:Dd slice)
  (h:wpAny (model prog w) A (eval value env) (fun o s₁=>wpAny (model prog w) A (eval slice env) (fun i s₂=>s₂.TypeIs o T∧wpAny (model prog w) A (getItem o i) Q E s₂) E s₁) E s) :
  wpAny (model prog w) A (eval (.Subscript value slice pos) env) Q E s:=by
 refine Subscript_ (wpAny_mono h (fun o s₁ h₁=>wpAny_mono h₁ (fun i s₂ h₂=>?_) fun _ _ x=>x) fun _ _ x=>x);obtain⟨hT,h₂⟩:=h₂;unfold subscriptTail;refine wpAny_bind ?_;rw[getitemInPython_of_ne hT.not_modules];refine wpAny_bind (wpAny_specialOf hT hl ?_)
 have fin:wpAny (model prog w) A (subscripted slice false o i) (fun r s₃=>wpAny (model prog w) A (letTemporaryGo value o r >>= fun _=>pure r) Q E s₃) E s₂:=by
  rw[hs o i];exact wpAny_operating (wpAny_mono h₂ (fun r s₃ h₃=>wpAny_bind (wpAny_letTemporaryGo (wpAny_pure h₃))) fun _ _ x=>x)
 first
  | exact wpAny_pure (wpAny_bind fin)
  | exact wpAny_bind (wpAny_pure (wpAny_bind fin))
  | exact wpAny_bind fin
theorem wC{X:Cx}{pins:List (Addr×Obj)}{σ:St}{H:Hp}{s:Shared}{a:Addr}{y:V}{o:Option V}(I:aM X pins σ H s)(g:kR H a y o):s.TypeIs (.ref a) "dict":=by
 rcases g with ⟨kvs,k,e,_,_⟩ | ⟨kvs,k,b,e,_,_,_⟩
 ·obtain⟨_,_,vs,_,dd⟩:=rp I.hok e;exact dd.typeIs
 ·obtain⟨_,_,xs,_,dd⟩:=uj I.hok e;exact dd.typeIs
inductive Eg(Q:VK)(x:V)(y:V)(H2:Hp):Prop
 | mk (a v:_):x=.ref a->kR H2 a y (some v)->Q v H2->Eg Q x y H2
def Ge(td ty:TE):TE:=fun σ H Q=>td σ H fun x H1=>ty σ H1 fun y H2=>Eg Q x y H2
inductive wH(Q:VK)(y:V)(x:V)(H2:Hp):Prop
 | mk (a o:_):x=.ref a->kR H2 a y o->Q (.bl (!o.isSome)) H2->wH Q y x H2
def Fo(ty td:TE):TE:=fun σ H Q=>ty σ H fun y H1=>td σ H1 fun x H2=>wH Q y x H2
inductive De(D:m6)(σ:L2.St)(v:V)(x:V)(y:V)(H3:Hp):Prop
 | mk (a H4:_):x=.ref a->pd H3 a y v H4->D.nx σ H4->De D σ v x y H3
def HX(td ty tv:TE):TS:=fun D σ H=>tv σ H fun v H1=>td σ H1 fun x H2=>ty σ H2 fun y H3=>De D σ v x y H3
section
variable{X:Cx}{o i e value:Expr}{pos pos' tpos:Pos}{td ty tv:TE}
theorem zY(hu:X.A.units+1 < cLine)(ho:PE X o td)(hi:PE X i ty)(hs:Dd i):PE X (.Subscript o i pos) (Ge td ty):=by
 intro pins s σ H Q I h;refine pZ PySem.F.slot_dict_getitem.lookup hs (bE (ho pins s σ H _ I h) fun u s1 ⟨x,H1,I1,rx,q1⟩=>bE (hi pins s1 σ H1 _ I1 q1) fun iv s2 ⟨y,H2,I2,ry,a,v,ex,g,q2⟩=>?_);subst ex;obtain rfl:u=Value.ref a:=rx;exact⟨wC I2 g,AX hu I2 g ry fun w' s3 I3 rw'=>⟨v,H2,I3,rw',q2⟩⟩
theorem ua(hu:X.A.units+1 < cLine)(hi:PE X i ty)(ho:PE X o td):PC X .NotIn i o (Fo ty td):=by
 intro pins s σ H Q I h;refine bE (hi pins s σ H _ I h) fun iv s1 ⟨y,H1,I1,ry,q1⟩=>bE (ho pins s1 σ H1 _ I1 q1) fun u s2 ⟨x,H2,I2,rx,a,ov,ex,g,q2⟩=>?_;subst ex;obtain rfl:u=Value.ref a:=rx;exact FR hu I2 g ry fun s3 I3=>⟨.bl (!ov.isSome),H2,I3,rfl,q2⟩
theorem kH(hu:X.A.units+1 < cLine)(ho:PE X o td)(hi:PE X i ty)(hv:PE X value tv)(hs:swapsWith value (some (.Subscript o i pos')) pos.line X.env=pure false) :
  PS X (.Assign [.Subscript o i pos'] value pos) (HX td ty tv):=by
 intro pins s σ H D I h;refine wpAny_Assign_Subscript (bE (hv pins s σ H _ I h) fun r s1 ⟨v,H1,I1,rv,q1⟩=>bE (ho pins s1 σ H1 _ I1 q1) fun u s2 ⟨x,H2,I2,rx,q2⟩=>bE (hi pins s2 σ H2 _ I2 q2) fun iv s3 ⟨y,H3,I3,ry,a,H4,ex,g,q3⟩=>?_) hs;subst ex;obtain rfl:u=Value.ref a:=rx;exact B2 hu I3 g ry rv fun s4 I4=>⟨σ,H4,I4,q3⟩
end
theorem E7{P:Program}{w:World}{H:Hp}(h:Heap)(hb:sysModules < h.objs.size):bB P w H (h.push {cls:=.type "dict",data:=.dict #[]}) h.objs.size (.dK []) :=
 ⟨KZ _,beq_eq_false_iff_ne.mpr (Ne.symm (Lj hb)),[],.nil,Heap.DictOf.new h⟩
theorem DL{P:Program}{w:World}{H:Hp}(h:Heap)(hb:sysModules < h.objs.size):bB P w H (h.push {cls:=.type "dict",data:=.dict #[]}) h.objs.size (.dT []) :=
 ⟨KZ _,beq_eq_false_iff_ne.mpr (Ne.symm (Lj hb)),[],.nil,_,#[],0,KD _ rfl,⟨rfl,rfl,rfl⟩,rfl,rfl,List.nodup_nil⟩
def Hv:TE:=fun _ H Q=>∀p,H p=none->Q (.ref p) (upd H p (.dK []))
def GF:TE:=fun _ H Q=>∀p,H p=none->Q (.ref p) (upd H p (.dT []))
section
variable{X:Cx}{pos:Pos}
theorem Cj:PE X (.Dict [] [] pos) Hv:=fun pins s σ H Q I h =>
 wpAny_Dict_empty ⟨.ref s.heap.objs.size,_,I.laid (a:=s.heap.objs.size) (o:=.dK []) (t':=s.toks) (fun _ _ q=>KB _ q) (KG _) (E7 s.heap I.big),rfl,h _ (I.hok.fresh (KG _))⟩
theorem Do:PE X (.Dict [] [] pos) GF:=fun pins s σ H Q I h =>
 wpAny_Dict_empty ⟨.ref s.heap.objs.size,_,I.laid (a:=s.heap.objs.size) (o:=.dT []) (t':=s.toks) (fun _ _ q=>KB _ q) (KG _) (DL s.heap I.big),rfl,h _ (I.hok.fresh (KG _))⟩
end
def fj(kvs more:List (di×V)):List (di×V):=more.foldl (fun acc kv=>dF acc kv.1 kv.2) kvs
theorem KV.merge:∀{more:List (di×V)}{rs:List (di×Value)}{kvs:List (di×V)}{vs:List (di×Value)},KV more rs->KV kvs vs->KV (fj kvs more) (merged vs rs):=by
 intro more rs kvs vs r;unfold KV at r
 induction r generalizing kvs vs with
 | nil=>intro q;exact q
 | @cons p q ps qs h t ih =>
  intro r0
  have e:KV (dF kvs p.1 p.2) (stored vs q.1 q.2):=by
   have:=r0.put p.1 h.2;rw[←h.1];exact this
  exact ih e
theorem l8:∀(more kvs:List (di×V)),(fj kvs more).length≤kvs.length+more.length
 | [],kvs=>by show kvs.length≤kvs.length+0;omega
 | p::r,kvs=>by
  have h1:=l8 r (dF kvs p.1 p.2);have h2:=jX kvs p.1 p.2;show(fj (dF kvs p.1 p.2) r).length≤_;rw[Kx];omega
structure M2(X:Cx)(o:Expr)(m:Str)(apos:Pos)(e f:Expr)(cpos:Pos):Prop where
 base:attributeBase o m X.env (eval o X.env)=eval o X.env
 few:((backTo cpos (starEach [e,f] X.env)).all (fun x=>!x.1)&&(backToKw cpos (keywordEach [] X.env)).all (fun x=>x.1.isSome)
  && decide (([e,f]:List Expr).length+([]:List Keyword).length+(if([]:List Keyword).isEmpty then 0 else 1) < 30))=true
 line:(apos.endLine==cpos.line)=true
 trees:backTo cpos (starEach [e,f] X.env)=[(false,eval e X.env),(false,eval f X.env)]
def K3(H:Hp)(a:Addr):Prop:=(∃kvs,Rd H a (.dK kvs))∨∃kvs,Rd H a (.dT kvs)
theorem GZ{X:Cx}{pins:List (Addr×Obj)}{σ:St}{H:Hp}{s:Shared}{a:Addr}(I:aM X pins σ H s)(d:K3 H a) :
  s.TypeIs (.ref a) "dict"∧(∀b,Value.ref a=.ref b->∃ob,s.heap.get? b=some ob∧ob.dict=none)∧(a==sysModules)=false:=by
 rcases d with ⟨kvs,e⟩ | ⟨kvs,e⟩
 ·obtain⟨_,hd,vs,_,dd⟩:=rp I.hok e;refine⟨dd.typeIs,fun b q=>?_,hd⟩;cases q;obtain⟨ob,_,_,h1,h2,_⟩:=dd;exact⟨ob,h1,h2.2.1⟩
 ·obtain⟨_,hd,xs,_,dd⟩:=uj I.hok e;refine⟨dd.typeIs,fun b q=>?_,hd⟩;cases q;obtain⟨ob,_,_,h1,h2,_⟩:=dd;exact⟨ob,h1,h2.2.1⟩
section
variable{X:Cx}{pins:List (Addr×Obj)}{σ:St}{H:Hp}{s:Shared}{a:Addr}{y d:V}{u r:Value}{o:Option V}{A:Around}{E:Value->Shared->Prop}
theorem Gv{Q:Value->Shared->Prop}(hu:A.units+1 < cLine)(I:aM X pins σ H s)(g:kR H a y o)(ry:bg y u)(rd:bg d r)(h:∀w' s',aM X pins σ H s'->bg (o.getD d) w'->Q w' s') :
  wpAny (model X.prog X.w) A (call (.builtin "dict.get") [.ref a,u,r]) Q E s:=by
 rcases g with ⟨kvs,k,e,ey,l⟩ | ⟨kvs,k,b,e,ey,eb,l⟩
 ·subst ey;obtain⟨z,hd,vs,rel,dd⟩:=rp I.hok e;refine call_meetsIn PySem.F.slot_dict_get dd.typeIs PySem.F.entry_dict_get (PySem.F.args_dict_get_3 _ _ _) (meets_dict_get_default (bN X.prog X.w) a (tq ry) hd r) ⟨_,dd.mapOf,h _ _ (I.tok _) ?_⟩;rw[l];exact(rel.val k).getD rd
 ·subst ey;cases (show u=Value.ref b from ry)
  obtain⟨z,hd,xs,rel,dd⟩:=uj I.hok e;refine call_meetsIn PySem.F.slot_dict_get dd.typeIs PySem.F.entry_dict_get (PySem.F.args_dict_get_3 _ _ _) (meetsH_dict_get_default (tupleKind (bN X.prog X.w)) a b hd r) ⟨tupleKind_room_in1 hu,k,xs,qH I.hok eb,dd,h _ _ (I.tok _) ?_⟩;rw[l];exact(rel.val k).getD rd
end
inductive A5(ty tx:TE)(σ:L2.St)(Q:VK)(x:V)(H1:Hp):Prop
 | mk (a:_):x=.ref a->K3 H1 a->(ty σ H1 fun y H2=>tx σ H2 fun z H3=>∃o,kR H3 a y o∧Q (o.getD z) H3)->A5 ty tx σ Q x H1
def Gy(td ty tx:TE):TE:=fun σ H Q=>td σ H fun x H1=>A5 ty tx σ Q x H1
section
variable{X:Cx}{o e f:Expr}{apos cpos:Pos}{td ty tx:TE}
theorem Cp(hu:X.A.units+1 < cLine)(ho:PE X o td)(he:PE X e ty)(hf:PE X f tx)(m:M2 X o "get" apos e f cpos):PE X (.Call (.Attribute o "get" apos) [e,f] [] cpos) (Gy td ty tx):=by
 intro pins s σ H Q I h;refine wpAny_Call_method m.base m.few m.line PySem.F.plainAttrs_dict PySem.F.slot_dict_get PySem.F.type_dict_get (bE (ho pins s σ H _ I h) fun u s1 ⟨x,H1,I1,rx,a,ex,d,q1⟩=>?_);subst ex;obtain rfl:u=Value.ref a:=rx;obtain⟨t1,t2,_⟩:=GZ I1 d;refine⟨t1,t2,?_⟩;rw[m.trees]
 refine Calls.callWith_builtin rfl (Calls.evalArgs_plain (Calls.spliced_cons (bE (he pins s1 σ H1 _ I1 q1) fun iv s2 ⟨y,H2,I2,ry,q2⟩ =>
  Calls.spliced_cons (bE (hf pins s2 σ H2 _ I2 q2) fun fv s3 ⟨z,H3,I3,rz,ov,g,q3⟩=>Calls.spliced_nil ?_))))
 exact Gv hu I3 g ry rz fun w' s4 I4 rw'=>⟨_,H3,I4,rw',q3⟩
end
theorem qO:typeLookup (.type "list") "keys"=pure none:=am_miss_of_fast (by first | decide +kernel | rfl)
theorem xT:entryFor table "dict.update.loop"=some Builtin.«dict.update.loop»:=entryFor_of_tree (by kernel_rfl)
theorem jR:plainId "dict.update.loop"=true:=by decide +kernel
section
variable{prog:Program}{w:World}{A:Around}{E:Value->Shared->Prop}
theorem Bc{s:Shared}{a:Addr}{o:Obj}{xs:Array Value}{k:Nat}{Q:Option Value->Shared->Prop}(hx:s.heap.get? a=some o)(hc:o.cls=.type "list")(hdat:o.data=.seq xs k)(hd:o.dict=none)(hA:A.handled=none)
  (h:∀h' tk,(∀b ob,s.heap.get? b=some ob->h'.get? b=some ob)->Q none {s with heap:=h',toks:=tk}):wpAny (model prog w) A (getAttr? (.ref a) "keys") Q E s:=by
 obtain⟨c,dct,dat,sl⟩:=o;simp only at hc hdat hd;subst hc hdat hd;obtain⟨hp,g,d,tk,os⟩:=s;have hT:∀tk',(⟨hp,g,d,tk',os⟩:Shared).TypeIs (.ref a) "list":=fun _=>⟨_,hx,rfl⟩;have hmiss:=qO;have hname:(["__module__","__name__","__qualname__","__doc__","__annotations__"]:List Str).contains "keys"=false:=by decide +kernel
 have hsz:("keys":Str).length+100≤sizeLine:=by first | size_fits | decide +kernel
 have f1:=sub_AttributeError;have f3:=PySem.F.slot_list_getattribute.lookup;have f4:=PySem.F.slot_list_getattribute.bind (.ref a);have f5:=am_list_getattr_none;unfold getAttr? getAttrBy? getAttrBy
 repeat (any_goals (first | assumption | exact hT _ | ((with_reducible show wpAny _ _ (call (Value.builtin "list.__getattribute__") _ _) _ _ _);refine call_meets PySem.F.slot_list_getattribute (hT _) am_entry_list_getattribute (PySem.F.args_list_getattribute_2 _ _) (meets_getattribute_miss_list a xs k sl "keys" _ hmiss hname hsz) ⟨hx,hA,fun h' tk' e hx'=>?_⟩) | wp_step))
 obtain⟨t',u',he⟩:=hx'.there;show wpAny _ _ (getattributeRaised _ _ _ _ _ _ _) _ _ _;unfold getattributeRaised
 repeat (any_goals (first | assumption | wp_step))
 all_goals first | exact h _ _ hx'.keeps | (dsimp only;repeat (any_goals (first | assumption | exact h _ _ hx'.keeps | wp_step)))
theorem xQ{R:Result->Shared->Prop}{S I l:Addr}{items:Array Value}{res:Value}(hh:A.handled=none)(hlI:l≠I)(hSI:S≠I)(hSl:S≠l) :
  ∀(gk:List (di×Value))(i:Nat)(acc:List (di×Value))(ix:Int)(t:Tok)(s:Shared),items.size=i+gk.length->acc.length+gk.length≤sizeLine →
   (∀(j:Nat)(q:di×Value),gk[j]?=some q->∃(b:Addr)(u:Value),items[i+j]?=some (.ref b)∧b≠S∧b≠I∧IsTup s.heap b #[u,q.2]∧mZ q.1 u=true) →
   s.heap.IsListIter I l i->s.heap.IsList l items->s.heap.DictOf (bN prog w) S acc →
   (∀h' tk,h'.DictOf (bN prog w) S (merged acc gk)->(∀b o,b≠S->b≠I->s.heap.get? b=some o->h'.get? b=some o)->R (.ok (.ret res)) {s with heap:=h',toks:=tk}) →
   codeAny (model prog w) A (.builtin "dict.update.loop" ⟨[.ref S,.ref I,.int ix t,res],[]⟩) R s
 | [],i,acc,ix,t,s,hsz,hln,ht,hit,hl,hm,hR=>by
  refine codeAny_builtin xT ?_;rw[Around.under_plainId jR _];show wpAny _ A.in1 (pyNext (.ref I) >>= _) _ _ s;refine wpAny_bind (wpAny_pyNext_list_end (A:=A.in1) hh hit hl (by first | exact Array.getElem?_eq_none (LU hsz) | (simp at hsz;simp;omega)) fun h' he=>?_)
  show wpAny _ A.in1 (Builtin.Dict.addKeywords S [] >>= _) _ _ _;refine wpAny_bind (wpAny_pure (wpAny_pure ?_));exact hR h' s.toks (hm.extBut he hSI) fun b o _ hb e=>he b o hb e
 | q::gk,i,acc,ix,t,s,hsz,hln,ht,hit,hl,hm,hR=>by
  obtain⟨b,u,hb,hbS,hbI,htup,hk⟩:=ht 0 q rfl;rw[Kx] at hsz hln;refine codeAny_builtin xT ?_;rw[Around.under_plainId jR _];show wpAny _ A.in1 (pyNext (.ref I) >>= _) _ _ s;refine wpAny_bind (wpAny_pyNext_list_item (x:=.ref b) hit hl (by simpa using hb) fun h1 hit1 hs1=>?_)
  have ht1:IsTup h1 b #[u,q.2]:=htup.extBut hs1.extBut hbI;have hl1:h1.IsList l items:=hl.extBut hs1.extBut hlI;have hm1:h1.DictOf (bN prog w) S acc:=hm.extBut hs1.extBut hSI;obtain⟨o,ho,hc,n,hd⟩:=id ht1;show wpAny _ A.in1 (holding [Value.ref b] _ >>= _) _ _ _;refine wpAny_bind (wpAny_holding ?_);refine wpAny_bind (wpAny_tryCatch ?_);unfold Builtin.Dict.pairItems;refine wpAny_bind (wpAny_typeOf (T:="tuple") ⟨o,ho,hc⟩ ?_);rw[if_pos (by first | decide | rfl | simp)]
  refine wpAny_bind (wpAny_seqItems ho hd (wpAny_pure ?_));show wpAny _ A.in1 (holding [u,q.2] (dictSet S u q.2)) _ _ _;refine wpAny_holding (wpAny_dictSet_pairs (knd:=bN prog w) (k:=q.1) hk hm1 (fun h2 hm2 hs2=>?_) (by omega))
  refine wpAny_pure ⟨plainId_quiet jR _,xQ (items:=items) hh hlI hSI hSl gk (i+1) (stored acc q.1 q.2) (ix+1) 0 _ (show items.size=i+1+gk.length by omega) ?_ (fun j q' e=>?_) ?_ ?_ hm2 fun h' tk hd' k=>?_⟩
  ·have z:=stored_length_le acc q.1 q.2;omega
  ·obtain⟨b',u',hb',hbS',hbI',htup',hk'⟩:=ht (j+1) q' (by simpa using e)
   refine⟨b',u',?_,hbS',hbI',(htup'.extBut hs1.extBut hbI').extBut hs2.extBut hbS',hk'⟩;rw[show i+1+j=i+(j+1) by omega]
   exact hb'
  ·exact hit1.at fun o' e=>hs2.extBut I o' (Ne.symm hSI) e
  ·exact hl1.extBut hs2.extBut (Ne.symm hSl)
  ·exact hR h' tk hd' fun c oc h3 h4 e=>k c oc h3 h4 (hs2.extBut c oc h3 (hs1.extBut c oc h4 e))
theorem pb{s:Shared}{l:Addr}{ol:Obj}{items:Array Value}{n:Nat}{prs:List (di×Value)}{Q:Value->Shared->Prop}(hh:A.handled=none)(hl:s.heap.get? l=some ol)(hc:ol.cls=.type "list")(hd:ol.dict=none)
  (hdat:ol.data=.seq items n)(hsz:items.size=prs.length)(hln:prs.length≤sizeLine)
  (ht:∀(j:Nat) (q:di×Value),prs[j]?=some q->∃(b:Addr) (u:Value),items[j]?=some (.ref b)∧IsTup s.heap b #[u,q.2]∧mZ q.1 u=true)
  (h:∀h' tk,h'.DictOf (bN prog w) s.heap.objs.size (merged [] prs)->(∀b o,s.heap.get? b=some o->h'.get? b=some o)->Q (.ref s.heap.objs.size) {s with heap:=h',toks:=tk}) :
  wpAny (model prog w) A (call (.type "dict") [.ref l]) Q E s:=by
 refine callType_codes (Q₁:=fun obj s₁=>obj=.ref s.heap.objs.size∧s₁={s with heap:=s.heap.push {cls:=.type "dict",data:=.dict #[]}}) PySem.F.kt_called_dict (PySem.F.kt_typeCall_dict_1 _) PySem.F.entry_dict_init (kt_code_dict_new _ ⟨rfl,rfl⟩) ?_
 rintro obj s₁ ⟨rfl,rfl⟩;have hnew:(s.heap.push {cls:=.type "dict",data:=.dict #[]}).DictOf (bN prog w) s.heap.objs.size []:=Heap.DictOf.new s.heap;have k0:∀b o,s.heap.get? b=some o->(s.heap.push {cls:=.type "dict",data:=.dict #[]}).get? b=some o:=fun b o e=>KB _ e;refine⟨hnew.typeIs,PySem.F.args_dict_init_2 _ _,?_⟩;unfold Builtin.«dict.__init__»;refine wpAny_bind ?_;unfold Builtin.Dict.selfAndRest;refine wpAny_bind (wpAny_notOrdered_dict hnew.typeIs ?_);show wpAny _ _ (pure (s.heap.objs.size,[Value.ref l])) _ _ _;refine wpAny_pure ?_;show wpAny _ _ (Builtin.Dict.updateFrom "dict.__init__" s.heap.objs.size (.ref l) [] .none) _ _ _;unfold Builtin.Dict.updateFrom;refine wpAny_bind (wpAny_typeOf (T:="list") ⟨ol,k0 _ _ hl,hc⟩ ?_);rw[if_pos (by first | decide | rfl | simp)]
 refine wpAny_bind (Bc (k0 _ _ hl) hc hdat hd hh fun h1 tk1 hk1=>?_);rw[if_pos (show(none:Option Value).isNone=true from rfl)]
 refine wpAny_bind (wpAny_rule ?_);have hl1:h1.IsList l items:=⟨ol,hk1 _ _ (k0 _ _ hl),hc,n,hdat⟩
 have hS1:s.heap.objs.size < h1.objs.size:=by
  have e:(s.heap.push {cls:=.type "dict",data:=.dict #[]}).get? s.heap.objs.size=some {cls:=.type "dict",data:=.dict #[]}:=KD _ rfl;exact KC (hk1 _ _ e)
 refine wpAny_bind (wpAny_pyIter_list hl1 ?_);have k2:∀b o,h1.get? b=some o->(h1.push {cls:=.type "list_iterator",data:=.fields #[.ref l,.int 0 0]}).get? b=some o:=fun b o e=>KB _ e;have hlt:l < s.heap.objs.size:=KC hl
 have key:=xQ (prog:=prog) (w:=w) (A:=A.in1) (R:=wants (fun r s₂=>r=.none∧Q (.ref s.heap.objs.size) s₂) E) (S:=s.heap.objs.size) (I:=h1.objs.size) (l:=l) (items:=items) (res:=Value.none) hh
  (Lj (Nat.lt_trans hlt hS1)) (Lj hS1) (LN hlt) prs 0 [] 0 0
  {s with heap:=h1.push {cls:=.type "list_iterator",data:=.fields #[.ref l,.int 0 0]},toks:=tk1} (by rw[hsz,Nat.zero_add]) (by rw[L0,Nat.zero_add];exact hln)
  (fun j q e=>by
   obtain⟨b,u,e1,e2,e3⟩:=ht j q e;have hb:b < s.heap.objs.size:=e2.lt;exact⟨b,u,by rw[Nat.zero_add];exact e1,Lj hb,Lj (Nat.lt_trans hb hS1),e2.keeps fun c o z=>k2 _ _ (hk1 _ _ (k0 _ _ z)),e3⟩)
  ⟨_,KD _ rfl,rfl,rfl⟩ (hl1.at fun o e=>k2 _ _ e) ((hnew.at fun o e=>hk1 _ _ e).at fun o e=>k2 _ _ e)
  (fun h' tk hd' k=>⟨rfl,h h' tk hd' fun b o e=>k b o (Lj (KC e)) (Lj (Nat.lt_trans (KC e) hS1)) (k2 _ _ (hk1 _ _ (k0 _ _ e)))⟩)
 first
  | exact wpAny_pure ⟨plainId_quiet jR _,key⟩
  | exact wpAny_bind (wpAny_pure (wpAny_pure ⟨plainId_quiet jR _,key⟩))
end
section
variable{X:Cx}
theorem xD{pins:List (Addr×Obj)}{σ:St}{H:Hp}{s:Shared}(I:aM X pins σ H s):∀{ps:List Addr}{kvs:List (di×V)},Paired (fun p kv=>eB X.K H p [kV kv.1,kv.2]) ps kvs →
  ∃prs:List (di×Value),KV kvs prs∧prs.length=ps.length∧∀(j:Nat)(q:di×Value),prs[j]?=some q->∃(b:Addr)(u:Value),ps[j]?=some b∧IsTup s.heap b #[u,q.2]∧mZ q.1 u=true
 | _,_,.nil=>⟨[],.nil,rfl,fun j q e=>by simp at e⟩
 | _,_,.cons (a:=p) (b:=kv) h t=>by
  obtain⟨prs,r,hl,hp⟩:=xD I t;obtain⟨its,rv,ht,_⟩:=I.tuple h;obtain⟨u,y,ei,ru,ry⟩:=HP rv;subst ei;refine⟨(kv.1,y)::prs,.cons ⟨rfl,ry⟩ r,by rw[Kx,Kx,hl],fun j q e=>?_⟩
  cases j with
  | zero =>
   have e':(kv.1,y)=q:=LS e;subst e';exact⟨p,u,rfl,ht,tq (P:=X.prog) (w:=X.w) ru⟩
  | succ j =>
   obtain⟨b,u',e1,e2,e3⟩:=hp j q (by simpa using e)
   exact⟨b,u',by simpa using e1,e2,e3⟩
theorem A8:∀{ps:List Addr}{us:List Value},b8 (ps.map V.ref) us->us=ps.map Value.ref
 | [],us,r=>by
  rw[List.map_nil] at r;cases r;rfl
 | p::ps,us,r=>by
  rw[KR] at r;cases r with
  | cons h t =>
   cases h;rw[KR,←A8 t]
theorem ze(hcalm:X.calm=true):eN X (.type "dict") (fun xs H Q=>∃(a:Addr)(ps:List Addr)(kvs:List (di×V)),xs=[.ref a]∧aH X.K H a (ps.map V.ref)∧Paired (fun p kv=>eB X.K H p [kV kv.1,kv.2]) ps kvs ∧
  ∀p,H p=none->Q (.ref p) (upd H p (.dK (fj [] kvs)))):=by
 intro pins s σ H xs us Q I r q;obtain⟨a,ps,kvs,ex,hq,hp,q⟩:=q;subst ex;obtain⟨u,eu,rx⟩:=oM r;subst eu;cases rx;obtain⟨its,rv,pl,hz⟩:=I.list hq;have ei:=A8 rv;subst ei;rw[Kv] at hz;obtain⟨prs,rel,hl,hpr⟩:=xD I hp;obtain⟨o,n,ho,hc,hd,hdat⟩:=pl;refine pb (prs:=prs) (I.ok.hd hcalm) ho hc hd hdat (by simp[hl]) (by rw[hl];exact hz) (fun j q' e=>?_) fun h' tk hd' k=>?_
 ·obtain⟨b,u,e1,e2,e3⟩:=hpr j q' e;exact⟨b,u,by simp[e1],e2,e3⟩
 ·have hm:(s.heap.objs.size==sysModules)=false:=beq_eq_false_iff_ne.mpr (LN I.big)
  have hlen:(fj [] kvs).length≤sizeLine:=by
   refine Lh (l8 kvs []) ?_;rw[L0,Nat.zero_add,rel.length,hl];exact hz
  exact⟨.ref s.heap.objs.size,upd H s.heap.objs.size (.dK (fj [] kvs)),I.laid (t':=tk) k (KG _) (show bB X.prog X.w _ _ _ (.dK (fj [] kvs)) from⟨hlen,hm,merged [] prs,KV.merge rel .nil,hd'⟩),rfl,q _ (I.hok.fresh (KG _))⟩
end
theorem rK:bootBuiltins "reversed"=some (.type "reversed"):=by decide +kernel
section
variable{X:Cx}{pins:List (Addr×Obj)}{σ:St}{H:Hp}{s:Shared}{h':Heap}
theorem aM.turnedL{t':Nat}{ch:List Addr}(I:aM X pins σ H s)(k:∀b o,b∉ch->s.heap.get? b=some o->h'.get? b=some o)(hf:∀b∈ch,jr X pins H b):aM X pins σ H {s with heap:=h',toks:=t'}:=by
 have nit:∀b u,H b=some u->b∉ch:=fun b u e z=>by
  have q:=(hf b z).1;rw[q] at e;cases e
 refine I.step (g':=s.gens) (d':=s.drawn) (ch:=ch) (fun b hb=>⟨(hf b hb).2.2.2.1,(hf b hb).2.1,(hf b hb).2.2.2.2.1,(hf b hb).2.2.2.2.2⟩) (fun b o _ _ hc e _=>k b o hc e) (fun b o _ _ hc e _=>⟨o.slots,k b o hc e⟩)
  (fun _ _ _ _ n=>n) (fun b o hc e=>⟨o,k b o hc e⟩) (fun _ _ e=>e) (fun _ _ _ e=>e) (fun b ps e=>⟨#[],by rw[e];simp⟩) (fun m hm=>?_) (fun b u e=>?_) I.bare
 ·obtain⟨o,es,ep,ho,r⟩:=hm;exact⟨o,es,ep,k _ o (fun z=>(hf _ z).2.1 rfl) ho,r⟩
 ·refine(I.hok b u e).stay (fun c v hc q=>k c v ?_ q) (fun _ q=>q) fun _ _ q=>q;rcases hc with z | z
  ·rw[z];exact nit b u e
  ·exact nit c _ z
theorem aM.turnedNew{t':Nat}{ch:List Addr}{T:Addr}{ob:HO}(I:aM X pins σ H s)(k:∀b o,b∉ch->s.heap.get? b=some o->h'.get? b=some o)(hf:∀b∈ch,jr X pins H b)(hT:s.heap.objs.size≤T)
  (new:bB X.prog X.w (upd H T ob) h' T ob):aM X pins σ (upd H T ob) {s with heap:=h',toks:=t'}:=by
 have hn:H T=none:=I.hok.fresh hT
 have nit:∀b u,H b=some u->b∉ch:=fun b u e z=>by
  have q:=(hf b z).1;rw[q] at e;cases e
 refine I.step (g':=s.gens) (d':=s.drawn) (ch:=ch) (fun b hb=>⟨(hf b hb).2.2.2.1,(hf b hb).2.1,(hf b hb).2.2.2.2.1,(hf b hb).2.2.2.2.2⟩) (fun b o _ _ hc e _=>k b o hc e) (fun b o _ _ hc e _=>⟨o.slots,k b o hc e⟩)
  (fun b o _ e n=>?_) (fun b o hc e=>⟨o,k b o hc e⟩) (fun b xs e=>?_) (fun b o u e=>?_) (fun b ps e=>⟨#[],?_⟩) (fun m hm=>?_) (fun b u e=>?_) I.bare
 ·rw[ak (Lj (KU (KC e) hT))];exact n
 ·rw[ak (aq e hn)];exact e
 ·rw[ak (aq e hn)];exact e
 ·rw[ak (aq e hn),e];simp
 ·obtain⟨o,es,ep,ho,r⟩:=hm;exact⟨o,es,ep,k _ o (fun z=>(hf _ z).2.1 rfl) ho,r⟩
 ·by_cases hb:b=T
  ·subst hb;rw[a9] at e;cases e;exact new
  ·rw[ak hb] at e;refine(I.hok b u e).stay (fun c v hc q=>k c v ?_ q) (fun c q=>by rw[ak (aq q hn)];exact q) fun c xs q=>by rw[ak (aq q hn)];exact q
   rcases hc with z | z
   ·rw[z];exact nit b u e
   ·exact nit c _ z
theorem aM.lock{d:Addr}{u:HO}(I:aM X pins σ H s)(h:H d=some u)(mu:F9 (some u)):∃od,aM X pins σ (upd H d (.frz od u)) s:=by
 have x:=I.hok d u h
 have ex:∃od,s.heap.get? d=some od:=by
  cases u with
  | lst xs=>obtain⟨_,_,_,_,e⟩:=x;exact⟨_,e⟩
  | dK kvs=>obtain⟨_,_,_,_,o,_,_,e,_⟩:=x;exact⟨o,e⟩
  | dT kvs=>obtain⟨_,_,_,_,o,_,_,e,_⟩:=x;exact⟨o,e⟩
  | set S n=>obtain⟨o,_,_,_,e,_⟩:=x;exact⟨o,e⟩
  | ins C dx fs=>obtain⟨_,_,_,e,_⟩:=x;exact⟨_,e⟩
  | ext φ=>obtain⟨_,⟨_,e⟩,_⟩:=x;exact⟨_,e⟩
  | _=>exact False.elim mu
 obtain⟨od,e⟩:=ex
 have new:bB X.prog X.w (upd H d (.frz od u)) s.heap d (.frz od u):=by
  refine⟨e,x.stay (fun b v _ q=>q) (fun b q=>?_) fun b xs q=>?_⟩
  ·rw[ak (fun z=>by rw[z,h] at q;cases q;exact mu)];exact q
  ·rw[ak (fun z=>by rw[z,h] at q;cases q;exact mu)];exact q
 exact⟨od,I.write (x:=d) (e:=d) (t':=s.toks) (h':=s.heap) (by rw[h];exact mu) (.inl rfl) (fun b v _ q=>q) ⟨od,e⟩ new⟩
theorem aM.nofrz{d:Addr}{u:HO}(I:aM X pins σ H s)(h:H d=some u)(mu:F9 (some u)):∀o' u',X.H_0 d≠some (.frz o' u'):=fun o' u' e=>by
 have q:=I.base.frzs d o' u' e;rw[h] at q;cases q;exact mu
theorem aM.unlock{d:Addr}{od:Obj}{u:HO}(I:aM X pins σ H s)(h:H d=some (.frz od u))(hn:∀o' u',X.H_0 d≠some (.frz o' u')):aM X pins σ (upd H d u) s:=by
 have neH:∀b o,H b=some o->(∀o' u',o≠.frz o' u')->b≠d:=fun b o e hne z=>by
  rw[z,h] at e;cases e;exact hne _ _ rfl
 have neN:∀b,H b=none->b≠d:=fun b e z=>by rw[z,h] at e;cases e
 refine⟨I.ok,I.os,I.bare,⟨I.base.keep,I.base.slot,fun b o e n hx=>?_,I.base.there,fun b xs e=>?_,fun b o x e=>?_,fun b ps e=>?_⟩,I.loc,I.cell,?_,fun x c e=>?_,fun p hp=>?_,fun b o e=>?_,I.len⟩
 ·rw[ak (neN b (I.base.free b o e n hx))];exact I.base.free b o e n hx
 ·have q:=I.base.tups b xs e;rw[ak (neH b _ q (fun _ _ z=>nomatch z))];exact q
 ·have q:=I.base.frzs b o x e;rw[ak (fun z=>by rw[z] at e;exact hn _ _ e)];exact q
 ·obtain⟨m,q⟩:=I.base.tbls b ps e;exact⟨m,by rw[ak (neH b _ q (fun _ _ z=>nomatch z))];exact q⟩
 ·rw[ak (neN _ I.free)];exact I.free
 ·rw[ak (neN c (I.freeC x c e))];exact I.freeC x c e
 ·obtain⟨e,n,r⟩:=I.pin p hp;exact⟨e,by rw[ak (neN _ n)];exact n,r⟩
 ·by_cases hb:b=d
  ·rw[hb,a9] at e;cases e;rw[hb];obtain⟨_,x⟩:=I.hok d _ h;exact x.stay (fun c v _ q=>q) (fun c q=>by rw[ak (neH c _ q (fun _ _ z=>nomatch z))];exact q) fun c xs q=>by rw[ak (neH c _ q (fun _ _ z=>nomatch z))];exact q
  ·rw[ak hb] at e;exact(I.hok b o e).stay (fun c v _ q=>q) (fun c q=>by rw[ak (neH c _ q (fun _ _ z=>nomatch z))];exact q) fun c xs q=>by rw[ak (neH c _ q (fun _ _ z=>nomatch z))];exact q
end
inductive yM(t:TE)(σ:L2.St)(H:Hp)(Q:VK):Prop
 | mk (d u:_):H d=some u->F9 (some u)->(∀od,t σ (upd H d (.frz od u)) fun v H'=>H' d=some (.frz od u)∧Q v (upd H' d u))->yM t σ H Q
section
variable{X:Cx}
theorem zZ{e:Expr}{t:TE}(h:PE X e t):PE X e (yM t):=by
 intro pins s σ H Q I hw;obtain⟨d,u,hd,mu,hw⟩:=hw;obtain⟨od,I1⟩:=I.lock hd mu;refine bE (h pins s σ _ _ I1 (hw od)) fun v s1 ⟨x,H1,I2,r,e2,q⟩=>?_;exact⟨x,_,I2.unlock e2 (I.nofrz hd mu),r,q⟩
theorem yq{tg:Expr}{pins:List (Addr×Obj)}{σ:St}{H:Hp}{s:Shared}{R:It->Hp->Prop}{J:It}{tn:Nat->Heap->Prop}{tk:Nat}(I:aM X pins σ H s)(o:Obj)
  (T:sx X.prog X.w X.K tg J [s.heap.objs.size] s.heap.objs.size tn)(st:tn 0 (s.heap.push o))(q:R J H):Jn X pins σ tg R (.ref s.heap.objs.size) {s with heap:=s.heap.push o,toks:=tk}:=by
 refine⟨s.heap.objs.size,[s.heap.objs.size],tn,J,H,rfl,I.kept fun b ob e=>KB _ e,T,st,fun b hb=>?_,q⟩;have e:b=s.heap.objs.size:=by simpa using hb
 subst e;exact I.fpOk (KG _) (I.hok.fresh (KG _))
end
def IQ(K:Frag)(a:Addr)(n:Nat):It :=
 ⟨fun i H=>i < n∧∃(xs:List V)(x:V),aH K H a xs∧xs[n - 1 - i]?=some x,fun i H x H'=>H'=H∧∀xs,aH K H a xs->xs[n - 1 - i]?=some x,fun i _=>n≤i⟩
theorem DX{P:Program}{w:World}{K:Frag}{tg:Expr}(a it:Addr)(n:Nat):sx P w K tg (IQ K a n) [it] it (fun i h=>i≤n∧h.IsRevIter it a ((n:Int) - 1 - (i:Nat))) where
 mem:=by simp
 obj:=fun i h st b hb=>by
  have e:b=it:=by simpa using hb
  subst e;obtain⟨_,o,e,c,d⟩:=st;exact⟨o,e,fun v z=>by rw[d] at z;cases z⟩
 keep:=fun i h h' st k=>⟨st.1,st.2.at fun o e=>k it (by simp) o e⟩
 item:=by
  intro X hP hw hK hc i pins s σ H E I hf st hg;subst hP hw hK;obtain⟨hin,xs,x,hq,hx⟩:=hg;obtain⟨its,rv,p,hz⟩:=I.list hq;obtain⟨u,hu,ru⟩:=rv.get hx;obtain⟨f0,f1,f2,f3,f4,f5⟩:=hf it (by simp)
  obtain⟨_,hit⟩:=st;have e1:(n:Int) - 1 - ((i:Nat):Int)=((n - 1 - i:Nat):Int):=by omega
  rw[e1] at hit;refine wpAny_pyNext_rev_item hit p.isList (x:=u) (by simpa using hu) fun h' st' sb=>?_
  have e2:((n - 1 - i:Nat):Int) - 1=(n:Int) - 1 - ((i+1:Nat):Int):=by omega
  rw[e2] at st';have I1:aM X pins σ H {s with heap:=h'}:=I.turned (t':=s.toks) (fun b o hb e=>(sb.2 b hb).trans e) f0 f1 f3 f4 f5
  obtain⟨o,e,c,d⟩:=id st';exact⟨u,rfl,xk (s:={s with heap:=h'}) e c d (by decide) ⟨x,H,I1,ru,⟨rfl,fun ys hy=>by rw[I.list_inj hy hq];exact hx⟩,⟨hin,st'⟩,fun b hb=>(hf b hb).1⟩⟩
 done:=by
  intro X hP hw hK hc i pins s σ H E I hf st hg;subst hP hw hK;obtain⟨f0,f1,f2,f3,f4,f5⟩:=hf it (by simp)
  obtain⟨hin,hit⟩:=st;have hge:n≤i:=hg;have e1:(n:Int) - 1 - ((i:Nat):Int)=-1:=by omega
  rw[e1] at hit;exact wpAny_pyNext_rev_end (I.ok.hd hc) hit fun h' eb=>⟨rfl,I.turned (t':=s.toks) (fun b o hb e=>eb b o hb e) f0 f1 f3 f4 f5⟩
 self:=fun A i s Q E st h=>wpAny_pyIter_revIter st.2 h
inductive G7(K:Frag)(R:It->Hp->Prop)(vs:List V)(H1:Hp):Prop
 | mk (a:Addr) (xs:List V):vs=[.ref a]->aH K H1 a xs->R (IQ K a xs.length) H1->G7 K R vs H1
def JV(K:Frag)(ta:TA):TI:=fun σ H R=>ta σ H fun vs H1=>G7 K R vs H1
section
variable{X:Cx}{tg:Expr}
theorem oY{e:Expr}{ta:TA}{p pos:Pos}(hg:Gl X "reversed")(hm:X.mg "reversed"=none)(ha:PA X [e] ta)(hs:starEach [e] X.env=[(false,eval e X.env)]:=by rfl):PI X tg (.Call (.Name "reversed" p) [e] [] pos) (JV X.K ta):=by
 intro pins s σ H R I h;refine Call_ (iI I hg hm rK (PyProof.Rows.callWith_type1 (bE (ha pos pins s σ H _ I h) fun us s1 ⟨vs,H1,I1,r1,q1⟩=>?_) hs rfl));obtain⟨a,xs,e,hq,q⟩:=q1;subst e;cases r1 with
 | cons r rr =>
  cases rr;cases r;obtain⟨its,rv,p',hz⟩:=I1.list hq;have hl:=rv.length;have e1:((its.toArray.size:Nat):Int) - 1=(xs.length:Int) - 1 - ((0:Nat):Int):=by simp only[KW];omega
  refine call_reversed_list p'.isList (wpAny_pyIter_revIter (l:=a) (i:=((its.toArray.size:Nat):Int) - 1) ⟨_,KD _ rfl,rfl,rfl⟩ ?_);refine yq (tk:=s1.toks) I1 _ (DX a _ xs.length) ⟨KZ _,?_⟩ q;rw[←e1];exact⟨_,KD _ rfl,rfl,rfl⟩
end
def Ia(x:Str):It:=⟨fun i _=>i < x.cps.size,fun i H v H'=>H'=H∧∃c,x.cps[i]?=some c∧v=.str ⟨#[c]⟩,fun i _=>x.cps.size≤i⟩
theorem wo{P:Program}{w:World}{K:Frag}{tg:Expr}(it:Addr)(x:Str)(t:Tok)(ty:String)(hty:ty="str_ascii_iterator"∨ty="str_iterator") :
  sx P w K tg (Ia x) [it] it (fun i h=>h.IsStrIter it ty x t i) where
 mem:=by simp
 obj:=fun i h st b hb=>by
  have e:b=it:=by simpa using hb
  subst e;obtain⟨o,e,c,d⟩:=st;exact⟨o,e,fun v z=>by rw[d] at z;cases z⟩
 keep:=fun i h h' st k=>let ⟨o,ho,r⟩:=st;⟨o,k it (by simp) o ho,r⟩
 item:=by
  intro X hP hw hK hc i pins s σ H E I hf st hg;subst hP hw hK;obtain⟨f0,f1,f2,f3,f4,f5⟩:=hf it (by simp)
  have W:Walks X.prog X.w X.A it [it] [it] x.cps.size (SignAt x) (fun i h=>h.IsStrIter it ty x t i):=by
   rcases hty with e | e
   ·rw[e];exact Walks.strAscii (I.ok.hd hc) it x t
   ·rw[e];exact Walks.strWide (I.ok.hd hc) it x t
  have hno:["enumerate","zip","dict_itemiterator","dict_reverseitemiterator","odict_iterator","itertools.zip_longest","itertools.pairwise"].contains ty=false:=by
   rcases hty with e | e
   ·rw[e];decide
   ·rw[e];decide
  refine W.item i s _ _ hg st fun v h' tk hv st' kk=>?_;obtain⟨c,u,hcx,rfl⟩:=hv;have I1:aM X pins σ H {s with heap:=h',toks:=tk}:=I.turned (fun b o hb e=>kk b o (by simpa using hb) e) f0 f1 f3 f4 f5
  obtain⟨oi,e,cc,dd⟩:=id st';exact⟨_,rfl,xk (s:={s with heap:=h',toks:=tk}) e cc dd hno ⟨.str ⟨#[c]⟩,H,I1,⟨u,rfl⟩,⟨rfl,c,hcx,rfl⟩,st',fun b hb=>(hf b hb).1⟩⟩
 done:=by
  intro X hP hw hK hc i pins s σ H E I hf st hg;subst hP hw hK;obtain⟨f0,f1,f2,f3,f4,f5⟩:=hf it (by simp)
  have hx:x.cps[i]?=none:=Array.getElem?_eq_none hg;rcases hty with e | e
  ·rw[e] at st;exact wpAny_pyNext_ascii_end (I.ok.hd hc) st hx fun h' eb=>⟨rfl,I.turned (t':=s.toks) (fun b o hb e=>eb b o hb e) f0 f1 f3 f4 f5⟩
  ·rw[e] at st;exact wpAny_pyNext_wide_end (I.ok.hd hc) st hx fun h' eb=>⟨rfl,I.turned (t':=s.toks) (fun b o hb e=>eb b o hb e) f0 f1 f3 f4 f5⟩
 self:=fun A i s Q E st h=>by
  rcases hty with e | e
  ·rw[e] at st;exact wpAny_pyIter_striter_ascii st h
  ·rw[e] at st;exact wpAny_pyIter_striter_wide st h
inductive FV(R:It->Hp->Prop)(v:V)(H1:Hp):Prop
 | mk (x:_):v=.str x->R (Ia x) H1->FV R v H1
def JM(te:TE):TI:=fun σ H R=>te σ H fun v H1=>FV R v H1
theorem CJ{X:Cx}{tg e:Expr}{te:TE}(he:PE X e te):PI X tg e (JM te):=by
 intro pins s σ H R I h;refine bE (he pins s σ H _ I h) fun v s1 ⟨y,H1,I1,r1,x,ex,q⟩=>?_;subst ex;obtain⟨t,rfl⟩:=r1;cases ha:x.cps.all (· < 128)
 ·exact wpAny_pyIter_wide ha (yq (tk:=s1.toks) I1 _ (wo _ x t "str_iterator" (.inr rfl)) ⟨_,KD _ rfl,rfl,rfl⟩ q)
 ·exact wpAny_pyIter_ascii ha (yq (tk:=s1.toks) I1 _ (wo _ x t "str_ascii_iterator" (.inl rfl)) ⟨_,KD _ rfl,rfl,rfl⟩ q)
def Gc(K:Frag)(a:Addr):It :=
 ⟨fun i H=>∃(xs:List V)(x:V),aH K H a xs∧xs[i]?=some x,fun i H v H'=>∃T x,v=.ref T∧H T=none∧H'=upd H T (.tup [.int (i:Nat),x])∧∀xs,aH K H a xs->xs[i]?=some x,fun i H=>∃xs:List V,aH K H a xs∧xs.length≤i⟩
theorem BQ{P:Program}{w:World}{K:Frag}{elts:List Expr}{kk:Nat}{tpos:Pos}(a e it:Addr) :
  sx P w K (.Tuple elts kk tpos) (Gc K a) [e,it] e (fun i h=>(∃old,IsEnum h e it ((i:Nat):Int) old)∧h.IsListIter it a i∧e≠it) where
 mem:=by simp
 obj:=fun i h st b hb=>by
  obtain⟨⟨old,he⟩,⟨o,ho,hc,hd⟩,_⟩:=st;have e':b=e∨b=it:=by simpa using hb
  rcases e' with z | z
  ·rw[z];exact⟨_,he,fun v q=>nomatch q⟩
  ·rw[z];exact⟨o,ho,fun v q=>by rw[hd] at q;cases q⟩
 keep:=fun i h h' st k=>let ⟨⟨old,he⟩,hi,hne⟩:=st;⟨⟨old,k e (by simp) _ he⟩,hi.at fun o q=>k it (by simp) o q,hne⟩
 item:=by
  intro X hP hw hK hc i pins s σ H E I hf st hg;subst hP hw hK;obtain⟨⟨old,he⟩,hit,hne⟩:=st;obtain⟨xs,x,hq,hx⟩:=hg;obtain⟨its,rv,p,hz⟩:=I.list hq;obtain⟨u,hu,ru⟩:=rv.get hx;have hel:e < s.heap.objs.size:=KC he;have hil:it < s.heap.objs.size:=by obtain⟨_,q,_⟩:=hit;exact KC q
  refine wpAny_pyNext_enum_item he hit p.isList (x:=u) (by simpa using hu) hne fun h' ho hit' hT hsz hk=>?_
  refine⟨_,rfl,wpAny_letOwnedTupleGo_enum (s:={s with heap:=h',toks:=s.toks+1}) ho fun h'' he' sb=>?_⟩
  have hT2:h''.get? s.heap.objs.size=some {cls:=.type "tuple",data:=.seq #[.int i s.toks,u]}:=(sb.2 _ (LN hel)).trans hT
  have new:bB X.prog X.w (upd H s.heap.objs.size (.tup [.int (i:Nat),x])) h'' s.heap.objs.size (.tup [.int (i:Nat),x]) :=
   ⟨by show 2≤sizeLine;decide,[.int i s.toks,u],.cons ⟨_,rfl⟩ (.cons ru .nil),⟨_,hT2,rfl,_,rfl⟩⟩
  have I1:aM X pins σ (upd H s.heap.objs.size (.tup [.int (i:Nat),x])) {s with heap:=h'',toks:=s.toks+1} :=
   I.turnedNew (ch:=[e,it]) (fun b ob hb q=>(sb.2 b (fun z=>hb (by simp[z]))).trans (hk b ob (fun z=>hb (by simp[z])) (fun z=>hb (by simp[z])) q)) hf (KG _) new
  refine⟨.ref s.heap.objs.size,_,I1,rfl,⟨_,x,rfl,I.hok.fresh (KG _),rfl,fun ys hy=>by rw[I.list_inj hy hq];exact hx⟩,⟨⟨u,?_⟩,hit'.at fun o q=>(sb.2 it (Ne.symm hne)).trans q,hne⟩,fun b hb=>?_⟩
  ·have e1:((i+1:Nat):Int)=(i:Int)+1:=by omega
   rw[e1];exact he'
  ·have hb':b < s.heap.objs.size:=by
    have e':b=e∨b=it:=by simpa using hb
    rcases e' with z | z
    ·rw[z];exact hel
    ·rw[z];exact hil
   rw[ak (Lj hb')];exact(hf b hb).1
 done:=by
  intro X hP hw hK hc i pins s σ H E I hf st hg;subst hP hw hK;obtain⟨⟨old,he⟩,hit,hne⟩:=st;obtain⟨xs,hq,hx⟩:=hg;obtain⟨its,rv,p,hz⟩:=I.list hq;obtain⟨f0,f1,f2,f3,f4,f5⟩:=hf it (by simp)
  have hl:=rv.length;exact wpAny_pyNext_enum_end (I.ok.hd hc) he hit p.isList (by simp;omega) fun h' eb=>⟨rfl,I.turned (t':=s.toks) (fun b o hb q=>eb b o hb q) f0 f1 f3 f4 f5⟩
 self:=fun A i s Q E st h=>let ⟨⟨_,he⟩,_⟩:=st;wpAny_pyIter_enum he h
inductive Dy(K:Frag)(R:It->Hp->Prop)(vs:List V)(H1:Hp):Prop
 | mk (a xs:_):vs=[.ref a]->aH K H1 a xs->R (Gc K a) H1->Dy K R vs H1
def HZ(K:Frag)(ta:TA):TI:=fun σ H R=>ta σ H fun vs H1=>Dy K R vs H1
theorem AQ{X:Cx}{e:Expr}{ta:TA}{p pos tpos:Pos}{elts:List Expr}{kk:Nat}(hg:Gl X "enumerate")(hm:X.mg "enumerate"=none)(ha:PA X [e] ta)(hs:starEach [e] X.env=[(false,eval e X.env)]:=by rfl) :
  PI X (.Tuple elts kk tpos) (.Call (.Name "enumerate" p) [e] [] pos) (HZ X.K ta):=by
 intro pins s σ H R I h;refine Call_ (iI I hg hm boot_enumerate (PyProof.Rows.callWith_type1 (bE (ha pos pins s σ H _ I h) fun us s1 ⟨vs,H1,I1,r1,q1⟩=>?_) hs rfl));obtain⟨a,xs,ex,hq,q⟩:=q1;subst ex;cases r1 with
 | cons r rr =>
  cases rr;cases r;obtain⟨its,rv,p',hz⟩:=I1.list hq;refine call_enumerate_list p'.isList fun h' he hit hsz hk=>wpAny_pyIter_enum he ?_;have I2:aM X pins σ H1 {s1 with heap:=h'}:=I1.kept (t':=s1.toks) hk
  refine⟨s1.heap.objs.size+1,[s1.heap.objs.size+1,s1.heap.objs.size],_,_,H1,rfl,I2,BQ a (s1.heap.objs.size+1) s1.heap.objs.size,⟨⟨.none,he⟩,hit,Nat.succ_ne_self _⟩,fun b hb=>?_,q⟩;have e':b=s1.heap.objs.size+1∨b=s1.heap.objs.size:=by simpa using hb
  have hle:s1.heap.objs.size≤b:=by
   rcases e' with z | z
   ·rw[z];exact Nat.le_add_right _ _
   ·rw[z];exact KG _
  exact I1.fpOk hle (I1.hok.fresh hle)
theorem o7:bootBuiltins "zip"=some (.type "zip"):=by decide +kernel
def IS(K:Frag)(a b:Addr):It :=
 ⟨fun i H=>∃(xs ys:List V)(x y:V),aH K H a xs∧aH K H b ys∧xs[i]?=some x∧ys[i]?=some y,
  fun i H v H'=>∃T x y,v=.ref T∧H T=none∧H'=upd H T (.tup [x,y])∧(∀xs,aH K H a xs->xs[i]?=some x)∧∀ys,aH K H b ys->ys[i]?=some y,
  fun i H=>∃xs ys:List V,aH K H a xs∧aH K H b ys∧(xs.length≤i∨ys.length≤i)⟩
theorem Cd{P:Program}{w:World}{K:Frag}{elts:List Expr}{kk:Nat}{tpos:Pos}{a b z TI TO i1 i2:Addr}(D:ZipApart z TI TO i1 i2 a b) :
  sx P w K (.Tuple elts kk tpos) (IS K a b) [z,TI,TO,i1,i2] z (fun i h=>IsZip h z TI TO .none∧IsPair h TI (.ref i1) (.ref i2)∧(∃x y,IsPair h TO x y)∧h.IsListIter i1 a i∧h.IsListIter i2 b i) where
 mem:=by simp
 obj:=fun i h st c hc=>by
  obtain⟨hz,hTI,⟨x,y,hTO⟩,⟨o1,e1,_,d1⟩,⟨o2,e2,_,d2⟩⟩:=st;have e':c=z∨c=TI∨c=TO∨c=i1∨c=i2:=by simpa using hc
  rcases e' with q | q | q | q | q
  ·rw[q];exact⟨_,hz,fun v q=>nomatch q⟩
  ·rw[q];exact⟨_,hTI,fun v q=>nomatch q⟩
  ·rw[q];exact⟨_,hTO,fun v q=>nomatch q⟩
  ·rw[q];exact⟨o1,e1,fun v q=>by rw[d1] at q;cases q⟩
  ·rw[q];exact⟨o2,e2,fun v q=>by rw[d2] at q;cases q⟩
 keep:=fun i h h' st k=>by
  obtain⟨hz,hTI,⟨x,y,hTO⟩,h1,h2⟩:=st;exact⟨k z (by simp) _ hz,k TI (by simp) _ hTI,⟨x,y,k TO (by simp) _ hTO⟩,h1.at fun o q=>k i1 (by simp) o q,h2.at fun o q=>k i2 (by simp) o q⟩
 item:=by
  intro X hP hw hK hc i pins s σ H E I hf st hg;subst hP hw hK;obtain⟨hz,hTI,⟨x0,y0,hTO⟩,h1,h2⟩:=st;obtain⟨xs,ys,x,y,hqx,hqy,hx,hy⟩:=hg;obtain⟨its,rv,p,_⟩:=I.list hqx;obtain⟨its2,rv2,p2,_⟩:=I.list hqy;obtain⟨u,hu,ru⟩:=rv.get hx;obtain⟨u2,hu2,ru2⟩:=rv2.get hy;have hzl:z < s.heap.objs.size:=KC hz;refine wpAny_pyNext_zip_item D hz hTI hTO h1 h2 p.isList p2.isList (x:=u) (y:=u2) (by simpa using hu) (by simpa using hu2) fun h' z' TO' h1' h2' hT hsz hk=>?_
  refine⟨_,rfl,wpAny_letOwnedTupleGo_zip (s:={s with heap:=h'}) z' fun h'' z'' sb=>?_⟩
  have hT2:h''.get? s.heap.objs.size=some {cls:=.type "tuple",data:=.seq #[u,u2]}:=(sb.2 _ (LN hzl)).trans hT
  have new:bB X.prog X.w (upd H s.heap.objs.size (.tup [x,y])) h'' s.heap.objs.size (.tup [x,y]) :=
   ⟨by show 2≤sizeLine;decide,[u,u2],.cons ru (.cons ru2 .nil),⟨_,hT2,rfl,_,rfl⟩⟩
  have I1:aM X pins σ (upd H s.heap.objs.size (.tup [x,y])) {s with heap:=h''} :=
   I.turnedNew (t':=s.toks) (ch:=[z,TI,TO,i1,i2]) (fun c o hb q=>(sb.2 c (fun q'=>hb (by simp[q']))).trans (hk c o (fun q'=>hb (by simp[q'])) (fun q'=>hb (by simp[q'])) (fun q'=>hb (by simp[q'])) (fun q'=>hb (by simp[q'])) q)) hf (KG _) new
  refine⟨.ref s.heap.objs.size,_,I1,rfl,⟨_,x,y,rfl,I.hok.fresh (KG _),rfl,fun l hl=>by rw[I.list_inj hl hqx];exact hx,fun l hl=>by rw[I.list_inj hl hqy];exact hy⟩,⟨z'',?_,⟨u,u2,?_⟩,?_,?_⟩,fun c hcm=>?_⟩
  ·exact(sb.2 _ D.TIz).trans (hk _ _ D.TIz D.TITO D.TIi1 D.TIi2 hTI)
  ·exact(sb.2 _ D.TOz).trans TO'
  ·exact h1'.at fun o q=>(sb.2 _ D.i1z).trans q
  ·exact h2'.at fun o q=>(sb.2 _ D.i2z).trans q
  ·have hlt:c < s.heap.objs.size:=by
    have e':c=z∨c=TI∨c=TO∨c=i1∨c=i2:=by simpa using hcm
    rcases e' with q | q | q | q | q
    ·rw[q];exact hzl
    ·rw[q];exact KC hTI
    ·rw[q];exact KC hTO
    ·rw[q];obtain⟨_,e1,_⟩:=h1;exact KC e1
    ·rw[q];obtain⟨_,e2,_⟩:=h2;exact KC e2
   rw[ak (Lj hlt)];exact(hf c hcm).1
 done:=by
  intro X hP hw hK hc i pins s σ H E I hf st hg;subst hP hw hK;obtain⟨hz,hTI,⟨x0,y0,hTO⟩,h1,h2⟩:=st;obtain⟨xs,ys,hqx,hqy,hend⟩:=hg;obtain⟨its,rv,p,_⟩:=I.list hqx;obtain⟨its2,rv2,p2,_⟩:=I.list hqy;have l1:=rv.length;have l2:=rv2.length
  have he:its.toArray[i]?=none∨its2.toArray[i]?=none:=by
   rcases hend with q | q
   ·exact .inl (by simp;omega)
   ·exact .inr (by simp;omega)
  exact wpAny_pyNext_zip_end (I.ok.hd hc) D hz hTI hTO h1 h2 p.isList p2.isList he fun h' hk=>⟨rfl,I.turnedL (t':=s.toks) (ch:=[z,TI,TO,i1,i2]) (fun c o hb q =>
   hk c o (fun q'=>hb (by simp[q'])) (fun q'=>hb (by simp[q'])) (fun q'=>hb (by simp[q'])) (fun q'=>hb (by simp[q'])) q) hf⟩
 self:=fun A i s Q E st h=>wpAny_pyIter_zip st.1 h
inductive G0(K:Frag)(R:It->Hp->Prop)(vs:List V)(H1:Hp):Prop
 | mk (a b xs ys:_):vs=[.ref a,.ref b]->aH K H1 a xs->aH K H1 b ys->R (IS K a b) H1->G0 K R vs H1
def Jr(K:Frag)(ta:TA):TI:=fun σ H R=>ta σ H fun vs H1=>G0 K R vs H1
theorem zI{X:Cx}{e e2:Expr}{ta:TA}{p pos tpos:Pos}{elts:List Expr}{kk:Nat}(hg:Gl X "zip")(hm:X.mg "zip"=none)(ha:PA X [e,e2] ta)
  (hs:starEach [e,e2] X.env=(false,eval e X.env)::starEach [e2] X.env:=by rfl)(hpl:(backTo pos (starEach [e2] X.env)).any (·.1)=false:=by rfl) :
  PI X (.Tuple elts kk tpos) (.Call (.Name "zip" p) [e,e2] [] pos) (Jr X.K ta):=by
 intro pins s σ H R I h;refine Call_ (iI I hg hm o7 (PyProof.Rows.callWith_type1 (bE (ha pos pins s σ H _ I h) fun us s1 ⟨vs,H1,I1,r1,q1⟩=>?_) hs hpl));obtain⟨a,b,xs,ys,ex,hqx,hqy,q⟩:=q1;subst ex;cases r1 with
 | cons r rr =>
  cases rr with
  | cons r' rr =>
   cases rr;cases r;cases r';obtain⟨its,rv,p1,_⟩:=I1.list hqx;obtain⟨its2,rv2,p2,_⟩:=I1.list hqy;have la:a < s1.heap.objs.size:=p1.lt;have lb:b < s1.heap.objs.size:=p2.lt;refine call_zip_2 p1.isList p2.isList fun h' hz hTI hTO h1 h2 hsz hk=>wpAny_pyIter_zip hz ?_;have I2:aM X pins σ H1 {s1 with heap:=h'}:=I1.kept (t':=s1.toks) hk
   refine⟨s1.heap.objs.size+4,[s1.heap.objs.size+4,s1.heap.objs.size+2,s1.heap.objs.size+3,s1.heap.objs.size,s1.heap.objs.size+1],_,_,H1,rfl,I2,Cd (PySem.W.ktu_apart s1.heap.objs.size a b la lb),⟨hz,hTI,⟨_,_,hTO⟩,h1,h2⟩,fun c hcm=>?_,q⟩;have e':c=s1.heap.objs.size+4∨c=s1.heap.objs.size+2∨c=s1.heap.objs.size+3∨c=s1.heap.objs.size∨c=s1.heap.objs.size+1:=by simpa using hcm
   have hle:s1.heap.objs.size≤c:=by
    rcases e' with z | z | z | z | z
    ·rw[z];exact Nat.le_add_right _ _
    ·rw[z];exact Nat.le_add_right _ _
    ·rw[z];exact Nat.le_add_right _ _
    ·rw[z];exact KG _
    ·rw[z];exact Nat.le_add_right _ _
   exact I1.fpOk hle (I1.hok.fresh hle)
end L2
section
namespace TL
open PySem PySem.Builtin PySem.Builtin.Str PySem.StrLaws
abbrev tl(x:Str):List Nat:=x.cps.toList
theorem gp(x:Str):x.length=(tl x).length:=by simp[tl,Str.length]
theorem Ey{x y:Str}(h:tl x=tl y):x=y:=Str.ext' (Array.toList_inj.mp h)
theorem nQ(x y:Str):tl (x++y)=tl x++tl y:=by
 show(x++y).cps.toList=_;rw[Str.cps_append,Array.toList_append]
def pre(S l:List Nat):Bool:=l.take S.length==S
def pC(S:List Nat):Nat->List Nat->List Nat->List (List Nat)
 | _,acc,[]=>[acc]
 | 0,acc,c::r=>if pre S (c::r)=true then acc::pC S (S.length - 1) [] r else pC S 0 (acc++[c]) r
 | k+1,acc,_::r=>pC S k acc r
def par(S:List Nat):List Nat->List Nat->Option (List Nat×List Nat)
 | _,[]=>none
 | acc,c::r=>if pre S (c::r)=true then some (acc,(c::r).drop S.length) else par S (acc++[c]) r
theorem pO(S:List Nat)(k:Nat)(acc:List Nat):pC S k acc []=[acc]:=by cases k<;>rfl
theorem A1{S acc r:List Nat}{c:Nat}(h:pre S (c::r)=true):pC S 0 acc (c::r)=acc::pC S (S.length - 1) [] r:=by
 show(if pre S (c::r)=true then acc::pC S (S.length - 1) [] r else pC S 0 (acc++[c]) r)=_;rw[if_pos h]
theorem wD{S acc r:List Nat}{c:Nat}(h:pre S (c::r)=false):pC S 0 acc (c::r)=pC S 0 (acc++[c]) r:=by
 show(if pre S (c::r)=true then acc::pC S (S.length - 1) [] r else pC S 0 (acc++[c]) r)=_;rw[if_neg (by rw[h];exact KM)]
theorem wF(S:List Nat):∀(k:Nat)(acc l:List Nat),pC S k acc l=pC S 0 acc (l.drop k)
 | 0,_,_=>by rw[List.drop_zero]
 | k+1,acc,[]=>by rw[List.drop_nil,pO,pO]
 | k+1,acc,c::r=>by
  show pC S k acc r=pC S 0 acc (r.drop k);exact wF S k acc r
theorem Fk{S:List Nat}(hS:S≠[]):pre S []=false:=by
 cases S with
 | nil=>exact absurd rfl hS
 | cons s S=>rfl
theorem mX{L:List Nat}{a:Nat}(h:a < L.length):∃c,L.drop a=c::L.drop (a+1):=⟨L[a],List.drop_eq_getElem_cons h⟩
theorem w8(S L:List Nat):∀(m a:Nat)(acc:List Nat),a+m≤L.length->(∀k,a≤k->k < a+m->pre S (L.drop k)=false) →
  pC S 0 acc (L.drop a)=pC S 0 (acc++(L.drop a).take m) (L.drop (a+m))
 | 0,a,acc,_,_=>by rw[List.take_zero,Lp,Nat.add_zero]
 | m+1,a,acc,h,hn=>by
  have hlt:a < L.length:=by omega
  obtain⟨c,e⟩:=mX hlt;have h0:=hn a (KG _) (by omega)
  have ih:=w8 S L m (a+1) (acc++[c]) (by omega) (fun k h1 h2=>hn k (by omega) (by omega))
  have e2:a+1+m=a+(m+1):=by omega
  rw[e2] at ih;rw[e] at h0;rw[e,wD h0,ih,List.take_succ_cons,Ld]<;>rfl
theorem Cu(L:List Nat)(a b:Nat):(L.drop a).drop b=L.drop (a+b):=by
 first
  | rw[List.drop_drop]
  | rw[List.drop_drop,Nat.add_comm]
theorem Hg{S L:List Nat}(hS:S≠[]){c:Nat}{acc:List Nat}(h:pre S (L.drop c)=true):pC S 0 acc (L.drop c)=acc::pC S 0 [] (L.drop (c+S.length)):=by
 rw[←Cu];cases e:L.drop c with
 | nil=>rw[e,Fk hS] at h;cases h
 | cons d r =>
  rw[e] at h;rw[A1 h,wF];cases S with
  | nil=>exact absurd rfl hS
  | cons s S=>rfl
theorem Cq{x y:Str}(hy:tl y≠[])(i:Nat):At x y x.length i↔pre (tl y) ((tl x).drop i)=true:=by
 have hx:=gp x;have hl:=gp y
 constructor
 ·intro h;have h2:=h.2;rw[subAt_eq,hl] at h2;exact h2
 ·intro h;have e:((tl x).drop i).take (tl y).length=tl y:=eq_of_beq h;have e1:=congrArg List.length e;rw[L9,List.length_drop] at e1;have e2:0 < (tl y).length:=List.length_pos_iff.mpr hy;refine⟨by omega,?_⟩
  rw[subAt_eq,hl];exact h
theorem Ga{x y:Str}(hy:tl y≠[]){i:Nat}(h:¬At x y x.length i):pre (tl y) ((tl x).drop i)=false:=by
 cases hp:pre (tl y) ((tl x).drop i) with
 | false=>rfl
 | true=>exact absurd ((Cq hy i).mpr hp) h
theorem JF{y:Str}(hy:tl y≠[]):1≤y.length:=by
 have e2:0 < (tl y).length:=List.length_pos_iff.mpr hy;rw[gp y];exact e2
theorem uh(x:Str)(i j:Nat):tl (strSub x i j)=((tl x).drop i).take (j - i):=strSub_toList x i j
theorem sF(x:Str)(i:Nat):tl (strSub x i x.length)=(tl x).drop i:=by
 rw[uh,gp x];exact KS (by rw[List.length_drop]<;>omega)
theorem tj{x y:Str}(hy:tl y≠[]):∀(cuts:List Nat)(a f:Nat),a≤(tl x).length->ChainG x y x.length a cuts f->(∀k,f≤k->¬At x y x.length k) →
  (partsFrom x y.length a cuts).map tl=pC (tl y) 0 [] ((tl x).drop a)
 | [],a,f,ha,h,hn=>by
  have e:f=a:=h;subst e;show [tl (strSub x f x.length)]=_;have run:=w8 (tl y) (tl x) ((tl x).length - f) f [] (by omega) (fun k h1 _=>Ga hy (hn k h1))
  have e2:f+((tl x).length - f)=(tl x).length:=by omega
  rw[e2,List.drop_length,pO,List.nil_append,KS (by rw[List.length_drop]<;>omega)] at run
  rw[run,sF]
 | c::r,a,f,ha,h,hn=>by
  obtain⟨h1,h2,h3,h4⟩:=h;have hc:c+y.length≤x.length:=h2.1;have hx:=gp x;have hl:=gp y;have ih:=tj hy r (c+y.length) f (by omega) h4 hn
  show tl (strSub x a c)::(partsFrom x y.length (c+y.length) r).map tl=_;have run:=w8 (tl y) (tl x) (c - a) a [] (by omega) (fun k k1 k2=>Ga hy (h3 k k1 (by omega)))
  have e2:a+(c - a)=c:=by omega
  rw[e2,List.nil_append,Hg hy ((Cq hy c).mp h2)] at run;rw[run,ih,uh,hl]
theorem BY(x y:Str)(hy:tl y≠[])(hk:¬Builtin.Str.strKind x < Builtin.Str.strKind y):(Txt.split x y).map tl=pC (tl y) 0 [] (tl x):=by
 obtain⟨f,g,hn⟩:=occ_tight x y (JF hy);have key:=tj hy _ 0 f (KZ _) g hn;rw[List.drop_zero] at key
 have none_case:occurrences x y 0 x.length (x.length+1)=[]->[x].map tl=pC (tl y) 0 [] (tl x):=fun ho=>by
  rw[ho] at key;rw[←key];show [tl x]=[tl (strSub x 0 x.length)];rw[sub_whole]
 unfold Txt.split
 by_cases h1:(decide (x.length < y.length)||decide (Builtin.Str.strKind x < Builtin.Str.strKind y))=true
 ·rw[if_pos h1]
  have hlt:x.length < y.length:=by
   simp only[Bool.or_eq_true,decide_eq_true_eq] at h1;rcases h1 with h | h
   ·exact h
   ·exact absurd h hk
  refine none_case ?_;cases ho:occurrences x y 0 x.length (x.length+1) with
  | nil=>rfl
  | cons c r =>
   rw[ho] at g;have hc:c+y.length≤x.length:=g.2.1.1;omega
 ·rw[if_neg h1]
  by_cases h2:(occurrences x y 0 x.length (x.length+1)).isEmpty=true
  ·rw[if_pos h2];exact none_case (List.isEmpty_iff.mp h2)
  ·rw[if_neg h2,partsBetween_eq];exact key
theorem EN{x y:Str}(h:y.cps.all (· < 256)=true):¬Builtin.Str.strKind x < Builtin.Str.strKind y:=by
 have e:Builtin.Str.strKind y=1:=by unfold PySem.Builtin.Str.strKind;rw[if_pos h]
 rw[e];unfold PySem.Builtin.Str.strKind
 split
 ·omega
 ·split<;>omega
def ui(S:List Nat):List (List Nat)->List Nat
 | []=>[]
 | [p]=>p
 | p::q::r=>p++(S++ui S (q::r))
theorem ko(y:Str):∀parts:List Str,tl (Str.join y parts)=ui (tl y) (parts.map tl)
 | []=>rfl
 | [_]=>rfl
 | x::z::r=>by
  show tl (x++y++Str.join y (z::r))=tl x++(tl y++ui (tl y) ((z::r).map tl));rw[nQ,nQ,ko y (z::r),Ld]
theorem qb(y:Str)(parts:List Str):Txt.join y parts=Str.join y parts:=glued_eq_join y parts
end TL
end
namespace L2
open PySem PySem.Spec PyProof.Rows
theorem um:∀l:List (Str×Tok),b8 ((l.map (·.1)).map V.str) (strValues l)
 | []=>.nil
 | p::r=>.cons ⟨p.2,rfl⟩ (um r)
theorem iV:∀{ys:List Str}{us:List Value},b8 (ys.map V.str) us->StrsAre us ys
 | [],_,.nil=>.nil
 | y::ys,_,.cons r t=>by
  obtain⟨k,rfl⟩:=r;exact .cons y k (iV t)
def si(ys:List Str):Hp->VK->Prop:=fun H Q=>∀p,H p=none->Q (.ref p) (upd H p (.lst (ys.map V.str)))
section
variable{X:Cx}{pins:List (Addr×Obj)}{σ:St}{H:Hp}{s:Shared}{Q:VK}
theorem o5{l:List (Str×Tok)}{ys:List Str}{k:Nat}(I:aM X pins σ H s)(e:l.map (·.1)=ys)(hz:ys.length≤sizeLine)(h:si ys H Q) :
  EP X pins σ Q (.ref s.heap.objs.size) {s with toks:=k,heap:=s.heap.push {cls:=.type "list",data:=.seq (strValues l).toArray}}:=by
 have hp:=I.hok.fresh (KG _);refine⟨.ref s.heap.objs.size,upd H s.heap.objs.size (.lst (ys.map V.str)),I.laid (fun b u q=>KB _ q) (KG _) ⟨by rw[Kv];exact hz,strValues l,_,?_,KD _ rfl⟩,rfl,h _ hp⟩
 rw[←e];exact um l
end
section
variable{X:Cx}
theorem Ce:Gi X "str.split" (fun x xs H Q=>∃a b,x=.str a∧xs=[.str b]∧(b.length==0)=false∧a.length+2≤sizeLine∧si (Txt.split a b) H Q):=by
 intro pins s σ H x xs v us Q I rx rs h;obtain⟨a,b,rfl,rfl,hb,hz,h⟩:=h;obtain⟨t,rfl⟩:=rx;cases rs with
 | cons r1 rs =>
  cases rs;obtain⟨u,rfl⟩:=r1;have hl:(Txt.split a b).length≤sizeLine:=Lh (PyProof.Rows.split_le a b) hz
  have hn:(Builtin.Str.partsBetween a (Builtin.Str.occurrences a b 0 a.length (a.length+1)) b.length).length≤sizeLine:=by
   have e1:=StrLaws.occ_length_le a b 0 a.length (a.length+1);rw[length_partsBetween];omega
  cases h1:(decide (a.length < b.length)||decide (Builtin.Str.strKind a < Builtin.Str.strKind b))
  ·cases hf:(Builtin.Str.occurrences a b 0 a.length (a.length+1)).isEmpty
   ·refine call_meets F.slot_str_split (typeIs_str _ _ _) F.entry_str_split (F.args_str_split_2 _ _) (meets_str_split_sep a b t u h1 hb hf (by omega) hn) ?_
    show EP X pins σ Q (.ref s.heap.objs.size) {s with toks:=_,heap:=s.heap.push {cls:=.type "list",data:=.seq (strsFrom s.toks (Builtin.Str.partsBetween a (Builtin.Str.occurrences a b 0 a.length (a.length+1)) b.length)).toArray}}
    rw[strsFrom_eq];exact o5 (ys:=Txt.split a b) I ((numbered_texts _ _).trans ((if_neg (ne_true_of_eq_false h1)).trans (if_neg (ne_true_of_eq_false hf))).symm) hl h
   ·refine call_meets F.slot_str_split (typeIs_str _ _ _) F.entry_str_split (F.args_str_split_2 _ _) (meets_str_split_not_found a b t u h1 hb hf) ?_;exact o5 (l:=[(a,t)]) (ys:=Txt.split a b) (k:=s.toks) I ((if_neg (ne_true_of_eq_false h1)).trans (if_pos hf)).symm hl h
  ·refine call_meets F.slot_str_split (typeIs_str _ _ _) F.entry_str_split (F.args_str_split_2 _ _) (meets_str_split_cannot_occur a b t u h1) ?_;exact o5 (l:=[(a,t)]) (ys:=Txt.split a b) (k:=s.toks) I (if_pos h1).symm hl h
theorem EJ:Gi X "str.join" (fun x xs H Q=>∃a p,∃ys:List Str,x=.str a∧xs=[.ref p]∧(aH X.K H p (ys.map V.str)∨eB X.K H p (ys.map V.str)) ∧
  (ys.map (·.length)).sum+ys.length * a.length≤16777216∧Q (.str (Txt.join a ys)) H):=by
 intro pins s σ H x xs v us Q I rx rs h;obtain⟨a,p,ys,rfl,rfl,hp,hz,h⟩:=h;obtain⟨t,rfl⟩:=rx;cases rs with
 | cons r1 rs =>
  cases rs;cases r1;rcases hp with hp | hp
  ·obtain⟨its,r,⟨o,n,ho,hc,_,hd⟩,_⟩:=I.list hp;exact PyProof.Rows.join_list (items:=its.toArray) ⟨o,ho,hc,n,hd⟩ (by rw[List.toList_toArray];exact iV r) hz fun t' k=>⟨.str _,H,I.tok k,⟨t',rfl⟩,h⟩
  ·obtain⟨its,r,ht,_⟩:=I.tuple hp;exact PyProof.Rows.join_tuple (items:=its.toArray) ht (by rw[List.toList_toArray];exact iV r) hz fun t' k=>⟨.str _,H,I.tok k,⟨t',rfl⟩,h⟩
theorem Ks{id:String}{C:Str->Prop}{g:Str->V}(rule:∀(a:Str) (t:Tok) (s:Shared) (Q:Value->Shared->Prop),C a->(∀(u:Value) (k:Nat),bg (g a) u->Q u {s with toks:=k}) →
  wpAny (model X.prog X.w) X.A (call (.builtin id) [.str a t]) Q X.xe s):Gi X id (fun x xs H Q=>∃a,x=.str a∧xs=[]∧C a∧Q (g a) H):=by
 intro pins s σ H x xs v us Q I rx rs h;obtain⟨a,rfl,rfl,hc,h⟩:=h;obtain⟨t,rfl⟩:=rx;cases rs;exact rule a t s _ hc fun u k r=>⟨g a,H,I.tok k,r,h⟩
theorem zH:Gi X "str.isdigit" (fun x xs H Q=>∃a,x=.str a∧xs=[]∧True∧Q (.bl (Txt.isdigit a)) H) :=
 Ks (C:=fun _=>True) (g:=fun a=>.bl (Txt.isdigit a)) fun _ _ s _ _ h=>PySem.SC.isdigit (h _ s.toks rfl)
theorem vB:eN X (.type "int") (fun xs H Q=>∃a n,xs=[.str a]∧PySem.intText? a=some n∧a.length≤640∧Q (.int n) H):=by
 intro pins s σ H xs us Q I rs h;obtain⟨a,n,rfl,hn,hl,h⟩:=h;cases rs with
 | cons r1 rs =>
  cases rs;obtain⟨t,rfl⟩:=r1;exact PySem.W.KIN.call_text hn hl ⟨.int n,H,I.tok _,⟨_,rfl⟩,h⟩
end
section
variable{X:Cx}{o e:Expr}{to te:TE}
def Ku(r:V->List V->Hp->VK->Prop)(to:TE):TE:=fun σ H Q=>to σ H fun x H1=>(∃a,x=.str a)∧r x [] H1 Q
def JN(r:V->List V->Hp->VK->Prop)(to te:TE):TE:=fun σ H Q=>to σ H fun x H1=>(∃a,x=.str a)∧te σ H1 fun y H2=>r x [y] H2 Q
theorem Iq{id:String}{name:Str}{apos pos:Pos}{r:V->List V->Hp->VK->Prop}(slot:Slot "str" name id)(ty:typeOf (.builtin id)=pure (.type "method_descriptor"))(rule:Gi X id r)(ho:PE X o to)
  (hbase:attributeBase o name X.env (eval o X.env)=eval o X.env:=by rfl)(hline:(apos.endLine==pos.line)=true:=by rfl):PE X (.Call (.Attribute o name apos) [] [] pos) (Ku r to):=by
 intro pins s σ H Q I h;refine PySem.Call_method0 hbase hline (bE (ho pins s σ H _ I h) fun v s1 ⟨x,H1,I1,r1,q1⟩=>?_);obtain⟨⟨a,rfl⟩,q1⟩:=q1;obtain⟨t,rfl⟩:=_root_.id r1;exact⟨"str",_,F.plainAttrs_str,slot,ty,typeIs_str _ _ _,(fun _ e=>nomatch e),Calls.callWith_builtin rfl (PySem.evalArgs_none (rule pins s1 σ H1 _ [] _ [] Q I1 r1 .nil q1))⟩
theorem G9{id:String}{name:Str}{apos pos:Pos}{r:V->List V->Hp->VK->Prop}(slot:Slot "str" name id)(ty:typeOf (.builtin id)=pure (.type "method_descriptor"))(rule:Gi X id r)(ho:PE X o to)(he:PE X e te)
  (hs:starEach [e] X.env=[(false,eval e X.env)]:=by rfl)(hbase:attributeBase o name X.env (eval o X.env)=eval o X.env:=by rfl)(hline:(apos.endLine==pos.line)=true:=by rfl) :
  PE X (.Call (.Attribute o name apos) [e] [] pos) (JN r to te):=by
 intro pins s σ H Q I h;refine PySem.Call_method1 hbase hs hline (bE (ho pins s σ H _ I h) fun v s1 ⟨x,H1,I1,r1,q1⟩=>?_);obtain⟨⟨a,rfl⟩,q1⟩:=q1;obtain⟨t,rfl⟩:=_root_.id r1;refine⟨"str",_,F.plainAttrs_str,slot,ty,typeIs_str _ _ _,(fun _ e=>nomatch e),Calls.callWith_builtin rfl (Calls.evalArgs_plain (Calls.spliced_cons ?_))⟩;exact bE (he pins s1 σ H1 _ I1 q1) fun u s2 ⟨y,H2,I2,r2,q2⟩=>Calls.spliced_nil (rule pins s2 σ H2 _ [y] _ [u] Q I2 r1 (.cons r2 .nil) q2)
theorem Dc{apos pos:Pos}(ho:PE X o to)(he:PE X e te)(hs:starEach [e] X.env=[(false,eval e X.env)]:=by rfl)(hbase:attributeBase o "split" X.env (eval o X.env)=eval o X.env:=by rfl)(hline:(apos.endLine==pos.line)=true:=by rfl) :
  PE X (.Call (.Attribute o "split" apos) [e] [] pos) (JN (fun x xs H Q=>∃a b,x=.str a∧xs=[.str b]∧(b.length==0)=false∧a.length+2≤sizeLine∧si (Txt.split a b) H Q) to te) :=
 G9 F.slot_str_split F.type_str_split Ce ho he hs hbase hline
theorem AM{apos pos:Pos}(ho:PE X o to)(he:PE X e te)(hs:starEach [e] X.env=[(false,eval e X.env)]:=by rfl)(hbase:attributeBase o "join" X.env (eval o X.env)=eval o X.env:=by rfl)(hline:(apos.endLine==pos.line)=true:=by rfl) :
  PE X (.Call (.Attribute o "join" apos) [e] [] pos) (JN (fun x xs H Q=>∃a p,∃ys:List Str,x=.str a∧xs=[.ref p]∧(aH X.K H p (ys.map V.str)∨eB X.K H p (ys.map V.str)) ∧
   (ys.map (·.length)).sum+ys.length * a.length≤16777216∧Q (.str (Txt.join a ys)) H) to te) :=
 G9 F.slot_str_join F.type_str_join EJ ho he hs hbase hline
end
def dM(s:Stmt)(j:Nat):Stmt:=match s with
 | .ClassDef _ _ _ body _ _ _ _ _ _ _=>body.getD j (.Pass ⟨0,0,0,0⟩)
 | _=>.Pass ⟨0,0,0,0⟩
def dN(s:Stmt):Arguments:=match s with
 | .FunctionDef _ a _ _ _ _ _ _ _ _=>a
 | _=>{posonlyargs:=[],args:=[],vararg:=none,kwonlyargs:=[],kw_defaults:=[],kwarg:=none,defaults:=[]}
def cq(s:Stmt):List Stmt:=match s with
 | .FunctionDef _ _ b _ _ _ _ _ _ _=>b
 | _=>[]
def ao(s:Stmt):Scope:=match s with
 | .FunctionDef _ _ _ _ _ _ sc _ _ _=>sc
 | _=>{kind:=.function,names:=[],isGenerator:=false,isCoroutine:=false}
structure yd(K:Frag)(x qual:Str)(st:Stmt)(f:Addr)(fd:FuncData):Prop where
 ex:∃(oc:Value)(od:Option Addr)(kV doc pm:Value)(an:Option Addr)(cdv ct:Value)(osl:Array (Option Value)),
  fd=fnOf x qual (dN st) (cq st) (ao st) .none kV doc pm an cdv ct∧K.lookup f=some ⟨oc,od,.func fd,osl⟩∧codeIn K cdv qual=true
 kp:keepIn K (.ref f)=true
section
variable{P:Program}{w:World}{K:Frag}{mg:Str->Option Value}{base:Heap}
theorem yd.binds{x qual:Str}{st:Stmt}{f:Addr}{fd:FuncData}{ps:List Str}(F:yd K x qual st f fd)
  (h:∀(kV doc pm:Value) (an:Option Addr) (cdv ct:Value) (us:List Value),us.length=ps.length->bindArgs (fnOf x qual (dN st) (cq st) (ao st) .none kV doc pm an cdv ct) ⟨us,[]⟩=pure (ps.zip us)):d7 K fd ps []:=by
 obtain⟨oc,od,kV,doc,pm,an,cdv,ct,osl,rfl,lk,hcd⟩:=F.ex;exact .all (h kV doc pm an cdv ct)
theorem qS{x qual:Str}{st:Stmt}{f:Addr}{oc:Value}{od an:Option Addr}{osl:Array (Option Value)}{kV doc pm cdv ct:Value}(l:K.lookup f=some ⟨oc,od,.func (fnOf x qual (dN st) (cq st) (ao st) .none kV doc pm an cdv ct),osl⟩)
  (c:codeIn K cdv qual=true)(k:keepIn K (.ref f)=true):yd K x qual st f (fnOf x qual (dN st) (cq st) (ao st) .none kV doc pm an cdv ct):=⟨⟨oc,od,kV,doc,pm,an,cdv,ct,osl,rfl,l,c⟩,k⟩
end
theorem Af{A:Around}{k:Nat}(hr:cX k A):A.units+1 < cLine:=LI (Nat.add_le_add_left (by decide:1≤64) _) hr.units
section
variable{X:Cx}
theorem pv(i:Nat){x:Str}{pos:Pos}(hN:X.N[i]?=some x:=by rfl)(hv:Hu X.env.scope x:=by first | exact Or.inl rfl | exact Or.inr (Or.inl rfl) | exact Or.inr (Or.inr rfl))(hd:(x==("__debug__":Str))=false:=by decide)
  (hcd:(x==("__classdict__":Str))=false:=by decide):PE X (.Name x pos) (bL i):=D3 hN hv hd hcd
theorem AY:eN X (.builtin "len") (fun xs H Q=>∃a kvs,xs=[V.ref a]∧H a=some (.dK kvs)∧Q (.int kvs.length) H):=by
 intro pins s σ H xs us Q I r h;obtain⟨a,kvs,rfl,ha,q⟩:=h;obtain⟨u,rfl,ru⟩:=oM r;cases ru;exact HS I (.inl ha) fun t s' I'=>⟨.int kvs.length,H,I',⟨t,rfl⟩,q⟩
end
theorem zR{A B:Prop}(h:B):if false=true then A else B:=by
 rw[if_neg KM];exact h
theorem zx{A B:Prop}(h:A):if true=true then A else B:=by
 rw[if_pos rfl];exact h
theorem de{c A B:Prop}[Decidable c](h1:c->A)(h2:¬c->B):if c then A else B:=by
 by_cases h:c
 ·rw[if_pos h];exact h1 h
 ·rw[if_neg h];exact h2 h
def aD(H H':Hp):Prop:=∀b o,H b=some o->H' b=some o
theorem aD.trans{H H1 H2:Hp}(a:aD H H1)(b:aD H1 H2):aD H H2:=fun c o h=>b c o (a c o h)
theorem aD.free{H H':Hp}(e:aD H H'){l:Addr}(h:H' l=Option.none):H l=Option.none:=by
 cases q:H l with
 | none=>rfl
 | some o =>
  rw[e l o q] at h;cases h
theorem aD.seq{K:Frag}{H H':Hp}{a:Addr}{xs:List V}(e:aD H H')(h:aH K H a xs):aH K H' a xs:=by
 rcases h with (h | ⟨o,h⟩) | h
 ·exact .inl (.inl (e _ _ h))
 ·exact .inl (.inr ⟨o,e _ _ h⟩)
 ·exact .inr h
theorem Dx{xs:List V}{z:Int}{j:Nat}{v:V}(e:z=(j:Int))(h:xs[j]?=some v):yb xs z=some v:=by
 rw[e];exact d9 h
theorem aD.made{H H1:Hp}{x dx C:Addr}(nx:H x=Option.none)(nd:H dx=Option.none)(k:∀b o,(upd (upd H dx (.own x)) x (.ins C dx [])) b=some o->b≠x->H1 b=some o):aD H H1:=fun b o e =>
 k b o (by rw[ak (aq e nx),ak (aq e nd)];exact e) (aq e nx)
end L2
namespace XL
open PySem
open Builtin Builtin.ObjectAttr
section
variable{prog:Program}{w:World}{A:Around}{E:Value->Shared->Prop}{h:Heap}{g:Array GenState}{d:Drawn}{t:Nat}{os:OsState}{a dx:Addr}{o:Obj}{vs:Array Value}
 {nm q:Str}{C N:Addr}{bs bm:List Value}{sn:List Str}{sub:List Value}{ab:Bool}{col:Option Bool}{dd:Option Addr}{k0 k1 k2 k3 k5:Option Value}{B newId:String}{mN mA:Str->Option Value}{name:Str}{v:Value}
theorem zD{tk:Tok}{Q:Fin->Shared->Prop}(FB:ExcAttrBase B bm)(hC:h.get? C=some (excClassObj nm q C N bs bm true sn sub ab col dd k0 k1 k2 k3 k5 newId))(hN:h.Ns N mN)
  (hna:mN name=none)(hB:typeLookup (.type B) name=pure none)(hx:h.get? a=some o)(hc:o.cls=.ref C)(hd:o.data=.fields vs)(hdx:o.dict=some dx)(hns:h.Ns dx mA)(hv:mA name=some v)
  (hq:Q (.done (.ret v)) ⟨h,g,d,t,os⟩) :
  wpAny (model prog w) A (Builtin.«object.__getattribute__» ⟨[.ref a,.str name tk],[]⟩) Q E ⟨h,g,d,t,os⟩:=by
 unfold Builtin.«object.__getattribute__»
 repeat (any_goals (first | assumption | (with_reducible refine wpAny_loadPart_at hx ?_;rw[hc]) | (with_reducible refine wpAny_typeLookup_exc hC hN FB.mro hB ?_;rw[hna]) | wp_step))
 rw[hd];show wpAny _ _ (instanceDict a false) _ _ _;unfold instanceDict
 repeat (first | (with_reducible refine wpAny_loadPart_at hx ?_;rw[hc]) | with_reducible refine wpAny_loadPart_at hC ?_ | wp_step)
 rw[hdx]
 repeat (first | (with_reducible refine wpAny_nsGet hns ?_;rw[hv]) | wp_step)
 exact hq
theorem yH{M:Model}{nameV:Value}{Q:Unit->Shared->Prop}(FB:ExcAttrBase B bm)(hC:h.get? C=some (excClassObj nm q C N bs bm true sn sub ab col dd k0 k1 k2 k3 k5 newId))
  (hx:h.get? a=some o)(hc:o.cls=.ref C)(hq:Q () ⟨h,g,d,t,os⟩):wpAny M A (checkBuiltinCall "BaseException.__getattribute__" ⟨[.ref a,nameV],[]⟩) Q E ⟨h,g,d,t,os⟩:=by
 have kind1:builtinKind "BaseException.__getattribute__"=some .slot:=by decide +kernel
 have cut1:splitId "BaseException.__getattribute__"=some ("BaseException","__getattribute__"):=by decide +kernel
 have hcB:(Value.ref C::bm).contains (.type "BaseException")=true:=by rw[List.contains_cons,FB.hasBase,Bool.or_true]
 have ha:=F.args_bexc_ga (.ref a) nameV;simp only[checkBuiltinCall,kind1,cut1];refine wpAny_bind ?_
 ·unfold isInstance
  repeat (first | (with_reducible refine wpAny_loadPart_at hx ?_;rw[hc]) | (with_reducible refine wpAny_isSubtype_exc hC ?_;rw[hcB]) | wp_step)
  exact hq
theorem Fe{tk:Tok}{fill expr:Bool}{Q:Value->Shared->Prop}(FB:ExcAttrBase B bm)(hC:h.get? C=some (excClassObj nm q C N bs bm true sn sub ab col dd k0 k1 k2 k3 k5 newId))(hN:h.Ns N mN)
  (hng:mN "__getattribute__"=none)(hnh:mN "__getattr__"=none)
  (hna:mN name=none)(hB:typeLookup (.type B) name=pure none)(hx:h.get? a=some o)(hc:o.cls=.ref C)(hd:o.data=.fields vs)(hdx:o.dict=some dx)(hns:h.Ns dx mA)(hv:mA name=some v)
  (hh:handedOut v=pure v)(hq:Q v ⟨h,g,d,t,os⟩) :
  wpAny (model prog w) A (getAttrBy (.ref a) (.str name tk) fill expr) Q E ⟨h,g,d,t,os⟩:=by
 have f3:=FB.ga.bind (.ref a)
 have n0:(expr&&onTheHeap (Value.builtin "BaseException.__getattribute__"))=false:=by
  cases expr<;>rfl
 have n1:(Value.builtin "BaseException.__getattribute__"==Value.builtin "object.__getattribute__")=false:=by
  decide +kernel
 have n2:(onTheHeap (Value.ref C)&&Value.builtin "BaseException.__getattribute__"==Value.builtin "object.__getattribute__")=false:=by
  rw[n1,Bool.and_false]
 repeat (any_goals (first | assumption | (with_reducible refine wpAny_loadPart_at hx ?_;rw[hc]) | (with_reducible refine wpAny_typeLookup_exc hC hN FB.mro FB.ga.lookup ?_;rw[hng]) | (with_reducible refine wpAny_typeLookup_exc hC hN FB.mro FB.noGetattr ?_;rw[hnh]) | wp_step))
 refine codeAny_call_builtin FB.ga.plain F.entry_bexc_ga (yH FB hC hx hc (zD FB hC hN hna hB hx hc hd hdx hns hv ?_));show wpAny _ _ (handedOut v) _ _ _;rw[hh];exact wpAny_pure hq
theorem Bq{expr:Bool}{Q:Value->Shared->Prop}(FB:ExcAttrBase B bm)(hC:h.get? C=some (excClassObj nm q C N bs bm true sn sub ab col dd k0 k1 k2 k3 k5 newId))(hN:h.Ns N mN)
  (hng:mN "__getattribute__"=none)(hnh:mN "__getattr__"=none)
  (hna:mN name=none)(hB:typeLookup (.type B) name=pure none)(hx:h.get? a=some o)(hc:o.cls=.ref C)(hd:o.data=.fields vs)(hdx:o.dict=some dx)(hns:h.Ns dx mA)(hv:mA name=some v)
  (hh:handedOut v=pure v)(hq:Q v ⟨h,g,d,t+1,os⟩) :
  wpAny (model prog w) A (getAttr (.ref a) name expr) Q E ⟨h,g,d,t,os⟩:=by
 unfold getAttr
 repeat (any_goals (first | assumption | with_reducible apply Fe FB hC hN hng hnh hna hB hx hc hd hdx hns hv hh | wp_step))
end
section
variable{prog:Program}{w:World}{A:Around}{E:Value->Shared->Prop}{h:Heap}{g:Array GenState}{d:Drawn}{t:Nat}{os:OsState}
variable{nm q:Str}{C N x:Addr}{bs bm:List Value}{sn:List Str}{sub:List Value}{ab:Bool}{col:Option Bool}{dd:Option Addr}{k0 k1 k2 k3 k5:Option Value}{B newId sa owner:String}
 {mN:Str->Option Value}{name:Str}{v:Value}{o:Obj}{vs:Array Value}
structure Di(h h':Heap)(x:Addr)(o:Obj)(name:Str)(v:Value):Prop where
 keep:∀b ob,b≠x->h.get? b=some ob->h'.get? b=some ob
 obj:h'.get? x=some {o with dict:=some h.objs.size}
 ns:h'.Ns1 h.objs.size (fun y=>if y=name then some v else none)
theorem yt{tk:Tok}{Q:Fin->Shared->Prop}(SF:StoreFacts B bm sa owner)
  (hC:h.get? C=some (excClassObj nm q C N bs bm true sn sub ab col dd k0 k1 k2 k3 k5 newId))(hn:h.Ns N mN)(hna:mN name=none)
  (hB:typeLookup (.type B) name=pure none)(hx:h.get? x=some o)(hc:o.cls=.ref C)(hd:o.data=.fields vs)(hdn:o.dict=none)
  (k:∀h' tk',Di h h' x o name v->Q (.done (.ret .none)) ⟨h',g,d,tk',os⟩) :
  wpAny (model prog w) A (Builtin.«object.__setattr__» ⟨[.ref x,.str name tk,v],[]⟩) Q E ⟨h,g,d,t,os⟩:=by
 have pass:=SF.passes (.ref x);unfold Builtin.«object.__setattr__»
 repeat (first | rw[refuse_eq] | (rw[refuseLoop_ref,pass]) | (with_reducible refine wpAny_loadPart_at hx ?_;rw[hc]) | with_reducible refine wpAny_mroOf_exc hC ?_ | (with_reducible refine wpAny_typeLookup_exc hC hn SF.mro hB ?_;rw[hna]) | wp_step)
 rw[hdn,if_neg (by simp[typeHasDict])]
 split
 ·rename_i z
  cases z
 split
 ·rename_i c z
  rw[hd] at z;cases z
 ·generalize hod:({cls:=.type "dict",data:=.dict #[]}:Obj)=od;have hx1:(h.push od).get? x=some o:=KB _ hx;have xs:x≠h.objs.size:=Lj (KC hx);refine wpAny_bind (wpAny_alloc' ?_);refine wpAny_bind (wpAny_update' hx1 (wpAny_pure ?_));generalize hg:((h.push od).update x fun o=>{cls:=o.cls,dict:=some h.objs.size,data:=o.data,slots:=o.slots})=h2
  have g2:h2.get? h.objs.size=some od:=by
   subst hg;rw[Heap.get?_update_ne _ _ _ _ xs.symm];exact Heap.get?_push_at rfl (by subst hod;rfl)
  have nd:h2.Ns h.objs.size (fun _=>none):=by
   subst hod;exact⟨_,#[],_,g2,rfl,fun e he=>absurd he (by simp),fun _=>rfl⟩
  show wpAny _ _ (storeInDict h.objs.size (.str name tk) name v) _ _ _;unfold storeInDict newKeyGuard;refine wpAny_bind (wpAny_pure (wpAny_bind (wpAny_nsSet1 (Heap.Ns1.of_empty nd) fun h' n' sb=>?_)));obtain⟨oD,esD,epD,hoD,hdD,hcD⟩:=n'.count (Within.cons name v Within.nil);refine wpAny_bind (wpAny_lookBehind hoD (by rw[hdD];exact pastItsLine_dict (Lh hcD (by rw[Kx,L0,sizeLine_eq];omega))) ?_)
  wp_walk
  refine k h' _ ⟨fun b ob hbx hb=>?_,?_,n'⟩
  ·rw[sb.2 b (Lj (KC hb))];subst hg;rw[Heap.get?_update_ne _ _ _ _ hbx];exact KB _ hb
  ·rw[sb.2 x xs];subst hg;refine Lw _ hx1 ?_;obtain⟨oc,odd,odt,osl⟩:=o;obtain rfl:odt=.fields vs:=hd;rfl
theorem BU{Q:Unit->Shared->Prop}(SF:StoreFacts B bm sa owner)
  (hC:h.get? C=some (excClassObj nm q C N bs bm true sn sub ab col dd k0 k1 k2 k3 k5 newId))(hn:h.Ns N mN)(hns:mN "__setattr__"=none)(hna:mN name=none)
  (hB:typeLookup (.type B) name=pure none)(hx:h.get? x=some o)(hc:o.cls=.ref C)(hd:o.data=.fields vs)(hdn:o.dict=none)
  (k:∀h' tk',Di h h' x o name v->Q () ⟨h',g,d,tk',os⟩) :
  wpAny (model prog w) A (setAttr (.ref x) name v) Q E ⟨h,g,d,t,os⟩:=by
 have f3:=SF.slot.bind (.ref x);unfold setAttr callSpecial? specialOf
 repeat (any_goals (first | assumption | (with_reducible refine wpAny_loadPart_at hx ?_;rw[hc]) | (with_reducible refine wpAny_typeLookup_exc hC hn SF.mro SF.slot.lookup ?_;rw[hns]) | wp_step))
 refine codeAny_call_builtin SF.slot.plain SF.entry (wpAny_check_sa SF hC hx hc (yt SF hC hn hna hB hx hc hd hdn fun h' tk' st=>?_))
 repeat (any_goals (first | assumption | wp_step))
 exact k h' tk' st
end
end XL
namespace XL
open PySem
structure rJ(h:Heap)(T:Addr)(fl:Value):Prop where
 ex:∃oT ts,h.get? T=some oT∧oT.data=.fields ts∧ts[3]?=some fl
structure nW(h:Heap)(e:Addr)(c:Value)(dx:Option Addr)(tb:Value):Prop where
 ex:∃oe vs,h.get? e=some oe∧oe.cls=c∧oe.dict=dx∧oe.data=.fields vs∧vs[1]?=some tb
structure kZ(S:List Addr)(e:Addr)(old:Option Addr)(c:Value)(dx:Option Addr)(fl:Value)(h h':Heap):Prop where
 new:∃T,h.objs.size≤T∧T≠e∧nW h' e c dx (.ref T)∧rJ h' T fl
 oth:∀b o,b∉S->b≠e->some b≠old->h.get? b=some o->h'.get? b=some o
 slot:∀b o,b∈S->h.get? b=some o->∃sl,h'.get? b=some {o with slots:=sl}
section
variable{M:Model}{A:Around}{E:Value->Shared->Prop}{s:Shared}
theorem eX{h base:Heap}{l:List Env}(hl:h.FunFrames base l){b:Addr}{o:Obj}{vs:Array Value}(ho:h.get? b=some o)(hd:o.data=.fields vs):b∉l.filterMap (·.frame):=fun hm=>by
 obtain⟨_,o',ho',nf⟩:=hl.mem hm;have q:o'=o:=LS (ho'.symm.trans ho);subst q;exact nf vs hd
theorem rC{base:Heap}{env:Env}{outer:List Env}{L e:Addr}{oe:Obj}{vs:Array Value}{head:Value}{hn:Bool}{Q:Unit->Shared->Prop}
  (fr:A.frames=some (env::outer))(hl:s.heap.FunFrames base (env::outer))(hf:env.frame=some L)(he:s.heap.get? e=some oe)(hd:oe.data=.fields vs)(hz:1 < vs.size)
  (k:∀h',kZ ((env::outer).filterMap (·.frame)) e none oe.cls oe.dict (rawInt L) s.heap h'->Q () {s with heap:=h'}) :
  wpAny M A (do let a ←frameOf env;let pl ←entryPlaceOf L hn;let b ←EntryCells.newEntry head a .none (rawInt L) .none pl;setField (.ref e) 1 b) Q E s:=by
 have heS:=eX hl he hd;refine wpAny_bind (wpAny_frameOf_fun fr hl hf fun h1 so=>wpAny_bind (wpAny_entryPlaceOf fun pl hpl=>?_));unfold EntryCells.newEntry newFields;refine wpAny_bind (wpAny_newObj_type ?_ (hpl.sizeOk5 ..));have e1:h1.get? e=some oe:=by rw[so.2.1 e heS];exact he
 generalize hob:({cls:=.type "traceback",dict:=none,data:=.fields ([head,.ref L,.none,rawInt L,.none]++(if pl.isEmpty then List.replicate 6 Value.none else pl)).toArray}:Obj)=ob
 have ob3:∃ts,ob.data=.fields ts∧ts[3]?=some (rawInt L):=by
  subst hob;exact⟨_,rfl,by simp⟩
 obtain⟨ts,odat,ots⟩:=ob3;have e2:(h1.push ob).get? e=some oe:=KB ob e1;refine wpAny_setField e2 hd hz (k _ ?_);have Te:h1.objs.size≠e:=LN (KC e1);have nfree:ob.isFreed=false:=Lx odat;have dat3:=Obj.data_mapFields hd (·.setIfInBounds 1 (Value.ref h1.objs.size));have e3:=Lw (Obj.mapFields (·.setIfInBounds 1 (Value.ref h1.objs.size))) e2 (Lx dat3);have t3:=(Lv (h1.push ob) (Obj.mapFields (·.setIfInBounds 1 (Value.ref h1.objs.size))) (Ne.symm Te)).trans (KD h1 nfree);refine⟨⟨h1.objs.size,LU so.1.symm,Te,⟨_,_,e3,Obj.cls_mapFields _ _,?_,dat3,by simp[hz]⟩,⟨ob,ts,t3,odat,ots⟩⟩,fun b o hb hbe _ q=>?_,fun b o hb q=>?_⟩
 ·obtain⟨oc,od,odt,osl⟩:=oe;cases odt<;>rfl
 ·rw[Lv _ _ (Ne.symm hbe)];exact KB ob (by rw[so.2.1 b hb];exact q)
 ·obtain⟨sl,q1⟩:=so.2.2 b o q;have hbe:b≠e:=fun z=>heS (z▸hb);exact⟨sl,by rw[Lv _ _ (Ne.symm hbe)];exact KB ob q1⟩
theorem jc{e T:Addr}{c:Value}{dx:Option Addr}{fl:Value}{Q:Unit->Shared->Prop}(x:nW s.heap e c dx (.ref T))(y:rJ s.heap T fl)(ne:T≠e)
  (k:∀h',(∀b,b≠T->h'.get? b=s.heap.get? b)->nW h' e c dx (.ref T)->rJ h' T .none->Q () {s with heap:=h'}):wpAny M A (setFlight (.ref e) none) Q E s:=by
 obtain⟨oe,vs,he,hc,hdx,hd,h1⟩:=x;obtain⟨oT,ts,hT,hdT,h3⟩:=y;have hz:3 < ts.size:=(Array.getElem?_eq_some_iff.mp h3).1;have dat:=Obj.data_mapFields hdT (·.setIfInBounds 3 Value.none);refine wpAny_setFlight_none he hd h1 hT hdT hz (k _ (fun b hb=>Lv _ _ (Ne.symm hb)) ⟨oe,vs,?_,hc,hdx,hd,h1⟩ ⟨_,_,Lw _ hT (Lx dat),dat,by simp[hz]⟩)
 rw[Lv _ _ ne];exact he
theorem kZ.off{S:List Addr}{e T:Addr}{old:Option Addr}{c:Value}{dx:Option Addr}{fl:Value}{h h1 h':Heap}(t:kZ S e old c dx fl h h1)(hz:h.objs.size≤T)(hTe:T≠e)
  (k:∀b,b≠T->h'.get? b=h1.get? b)(x:nW h' e c dx (.ref T))(y:rJ h' T .none):kZ S e old c dx .none h h' :=
 have hT:h.get? T=none:=LG hz
 ⟨⟨T,hz,hTe,x,y⟩,fun b o hb hbe hbo q=>by rw[k b (fun z=>by rw[z,hT] at q;cases q)];exact t.oth b o hb hbe hbo q,
  fun b o hb q=>by obtain⟨sl,q1⟩:=t.slot b o hb q;exact⟨sl,by rw[k b (fun z=>by rw[z,hT] at q;cases q)];exact q1⟩⟩
theorem DV{base:Heap}{env:Env}{outer:List Env}{L e:Addr}{c:Value}{dx:Option Addr}{Q:Unit->Shared->Prop}
  (fr:A.frames=some (env::outer))(hl:s.heap.FunFrames base (env::outer))(hf:env.frame=some L)(x:nW s.heap e c dx .none)
  (k:∀h',kZ ((env::outer).filterMap (·.frame)) e none c dx (rawInt L) s.heap h'->Q () {s with heap:=h'}):wpAny M A (noteFrame (.ref e) env) Q E s:=by
 obtain⟨oe,vs,he,rfl,rfl,hd,h1⟩:=x;unfold noteFrame;simp only[hf];refine wpAny_bind (wpAny_field he hd h1 ?_);rw[if_neg (by decide)]
 exact rC fr hl hf he hd (Array.getElem?_eq_some_iff.mp h1).1 k
theorem Au{base:Heap}{env:Env}{outer:List Env}{L e T:Addr}{c:Value}{dx:Option Addr}{Q:Unit->Shared->Prop}
  (fr:A.frames=some (env::outer))(hl:s.heap.FunFrames base (env::outer))(hf:env.frame=some L)(x:nW s.heap e c dx (.ref T))(y:rJ s.heap T .none)(ne:T≠e)
  (k:∀h',kZ ((env::outer).filterMap (·.frame)) e (some T) c dx (rawInt L) s.heap h'->Q () {s with heap:=h'}):wpAny M A (noteFrame (.ref e) env) Q E s:=by
 obtain⟨oe,vs,he,hc,hdx,hd,h1⟩:=x;obtain⟨oT,ts,hT,hdT,h3⟩:=y;unfold noteFrame;simp only[hf];refine wpAny_bind (wpAny_field he hd h1 ?_);rw[if_pos (show(Value.ref T != Value.none)=true from by simp)]
 refine wpAny_bind (wpAny_field hT hdT h3 ?_);rw[if_neg (show ¬((Value.none==rawInt L)=true) from by simp[rawInt])]
 refine wpAny_bind (wpAny_setField hT hdT (Array.getElem?_eq_some_iff.mp h3).1 ?_);have oth:∀b,b≠T->(s.heap.update T (Obj.mapFields (·.setIfInBounds 3 Value.none))).get? b=s.heap.get? b:=fun b hb=>Lv _ _ (Ne.symm hb);have hTS:=eX hl hT hdT
 have hl':(s.heap.update T (Obj.mapFields (·.setIfInBounds 3 Value.none))).FunFrames base (env::outer):=hl.of_keeps fun b o q nf=>⟨o,by
  rw[oth b (fun z=>by subst z;have w:oT=o:=LS (hT.symm.trans q);subst w;exact nf ts hdT)];exact q,rfl⟩
 have he':=(oth e (Ne.symm ne)).trans he;subst hc;subst hdx;refine rC (s:={s with heap:=_}) fr hl' hf he' hd (Array.getElem?_eq_some_iff.mp h1).1 fun h' t=>k h' ?_
 obtain⟨T',n1,n2,n3,n4⟩:=t.new;refine⟨⟨T',?_,n2,n3,n4⟩,fun b o hb hbe hbo q=>t.oth b o hb hbe (by simp) ?_,fun b o hb q=>t.slot b o hb ?_⟩
 ·have z:(s.heap.update T (Obj.mapFields (·.setIfInBounds 3 Value.none))).objs.size=s.heap.objs.size:=Heap.size_after_update ..;rw[←z];exact n1
 ·show(s.heap.update T _).get? b=_;rw[oth b (fun z=>hbo (by rw[z]))];exact q
 ·show(s.heap.update T _).get? b=_;rw[oth b (fun z=>hTS (z▸hb))];exact q
theorem Bs{base:Heap}{env:Env}{outer:List Env}{L e:Addr}{c:Value}{dx:Option Addr}{Q:Unit->Shared->Prop}
  (fr:A.frames=some (env::outer))(hl:s.heap.FunFrames base (env::outer))(hf:env.frame=some L)(x:nW s.heap e c dx .none)
  (k:∀h',kZ ((env::outer).filterMap (·.frame)) e none c dx .none s.heap h'->Q () {s with heap:=h'}):wpAny M A (leaving env (.ref e)) Q E s:=by
 unfold leaving;refine wpAny_bind (DV fr hl hf x fun h1 t=>?_);obtain⟨T,n1,n2,n3,n4⟩:=t.new;exact jc (s:={s with heap:=h1}) n3 n4 n2 fun h' kp x' y'=>k h' (t.off n1 n2 kp x' y')
theorem E1{base:Heap}{env:Env}{outer:List Env}{L e T:Addr}{c:Value}{dx:Option Addr}{Q:Unit->Shared->Prop}
  (fr:A.frames=some (env::outer))(hl:s.heap.FunFrames base (env::outer))(hf:env.frame=some L)(x:nW s.heap e c dx (.ref T))(y:rJ s.heap T .none)(ne:T≠e)
  (k:∀h',kZ ((env::outer).filterMap (·.frame)) e (some T) c dx .none s.heap h'->Q () {s with heap:=h'}):wpAny M A (leaving env (.ref e)) Q E s:=by
 unfold leaving;refine wpAny_bind (Au fr hl hf x y ne fun h1 t=>?_);obtain⟨T,n1,n2,n3,n4⟩:=t.new;exact jc (s:={s with heap:=h1}) n3 n4 n2 fun h' kp x' y'=>k h' (t.off n1 n2 kp x' y')
end
section
variable{M:Model}{A:Around}{E:Value->Shared->Prop}{env:Env}
variable{nm q:Str}{C N:Addr}{bs bm:List Value}{hdct:Bool}{sn:List Str}{sub:List Value}{ab:Bool}{col:Option Bool}{dd:Option Addr}{k0 k1 k2 k3 k5:Option Value}{newId:String}
theorem yT{s:Shared}{x:Sem Value}{Q:Flow->Shared->Prop}(hb:bm.contains (.type "BaseException")=true)(hh:A.handled=none)
  (h:wpAny M A x (fun v s1=>∃e dx,v=.ref e∧s1.heap.get? C=some (excClassObj nm q C N bs bm hdct sn sub ab col dd k0 k1 k2 k3 k5 newId)∧nW s1.heap e (.ref C) dx .none∧E (.ref e) s1) E s) :
  wpAny M A (raiseStmt env (some x) none) Q E s:=by
 have hcB:(Value.ref C::bm).contains (.type "BaseException")=true:=by rw[List.contains_cons,hb,Bool.or_true]
 unfold raiseStmt;refine wpAny_bind (wpAny_mono h (fun v s1 g=>?_) fun _ _ z=>z);obtain⟨e,dx,rfl,hC,⟨oe,vs,he,hc,hdx,hd,h1⟩,hE⟩:=g;obtain⟨hp,g,d,tk,os⟩:=s1;obtain⟨oc,od,odt,osl⟩:=oe;obtain rfl:oc=.ref C:=hc;obtain rfl:odt=.fields vs:=hd
 repeat (first | with_reducible refine wpAny_loadPart_at he ?_ | with_reducible refine wpAny_loadPart_at hC ?_ | (with_reducible refine wpAny_isSubtype_exc hC ?_;rw[hcB]) | with_reducible refine wpAny_field he rfl h1 ?_ | wp_step)
 exact wpAny_raiseNew_none hh hE
end
end XL
namespace XL
open PySem PySem.Spec PyProof.Rows L2
section
variable{P:Program}{w:World}{H H':Hp}{h h':Heap}{a:Addr}{o:HO}
theorem CQ(x:bB P w H h a o):∃ob,h.get? a=some ob:=by
 cases o with
 | lst xs=>obtain⟨_,_,_,_,e⟩:=x;exact⟨_,e⟩
 | tup xs=>obtain⟨_,_,_,ob,e,_⟩:=x;exact⟨_,e⟩
 | dK kvs=>obtain⟨_,_,_,_,ob,_,_,e,_⟩:=x;exact⟨_,e⟩
 | dT kvs=>obtain⟨_,_,_,_,ob,_,_,e,_⟩:=x;exact⟨_,e⟩
 | set S n=>obtain⟨ob,_,_,_,e,_⟩:=x;exact⟨_,e⟩
 | ins C dx fs=>obtain⟨_,_,_,e,_⟩:=x;exact⟨_,e⟩
 | own y=>exact x
 | xd fs=>obtain⟨_,⟨_,_,_,e,_⟩,_⟩:=x;exact⟨_,e⟩
 | rng lo hi=>obtain⟨_,_,_,e⟩:=x;exact⟨_,e⟩
 | frz ob u=>exact⟨_,x.1⟩
 | tbl ps=>exact⟨_,x⟩
 | met f y=>exact⟨_,x⟩
 | ext φ=>exact x.2.1
theorem kK(ok:fN P w H h)(e:h.get? a=none):H a=none:=by
 cases q:H a with
 | none=>rfl
 | some u =>
  obtain⟨ob,z⟩:=CQ (ok a u q);rw[e] at z;cases z
abbrev XO(a:Addr)(o:Obj):HO:=.ext fun h=>h.get? a=some o
theorem FY{ob:Obj}(e:h.get? a=some ob):bB P w H h a (XO a ob):=⟨e,⟨ob,e⟩,fun _ _ p k=>k ob p⟩
theorem Dn{ob:Obj}(ok:fN P w H h)(e:H a=some (XO a ob)):h.get? a=some ob:=(ok a _ e).1
theorem EB(x:fN P w H h)(k:∀b u,h.get? b=some u->h'.get? b=some u)(hg:h.get? a=none)(new:bB P w (upd H a o) h' a o):fN P w (upd H a o) h':=fun b u e=>by
 have hn:=kK x hg
 by_cases hb:b=a
 ·subst hb;rw[a9] at e;cases e;exact new
 ·rw[ak hb] at e;exact(x b u e).stay (fun c v _ q=>k c v q) (fun c q=>by rw[ak (aq q hn)];exact q) fun c xs q=>by rw[ak (aq q hn)];exact q
theorem GH{fs ex:List Addr}(k:∀b u,h.get? b=some u->h'.get? b=some u)(hg:h.get? a=none)(hn:H a=none):Un fs ex H (upd H a o) h h' where
 keep:=fun b u q _ _ _=>k b u q
 slot:=fun b u q _ _ _=>⟨u.slots,k b u q⟩
 free:=fun b u q n _=>by rw[ak (fun z=>by rw[z,hg] at q;cases q)];exact n
 there:=fun b u q _=>⟨u,k b u q⟩
 tups:=fun b xs q=>by rw[ak (aq q hn)];exact q
 frzs:=fun b u xs q=>by rw[ak (aq q hn)];exact q
 tbls:=fun b ps q=>⟨#[],by rw[ak (aq q hn),q];simp⟩
def C4(H:Hp)(a:Addr):Hp:=fun b=>if b=a then none else H b
theorem ra{H:Hp}{a:Addr}:C4 H a a=none:=if_pos rfl
theorem fJ{H:Hp}{a b:Addr}(h:b≠a):C4 H a b=H b:=if_neg h
theorem CM{H:Hp}{a b:Addr}{u:HO}(e:C4 H a b=some u):b≠a∧H b=some u:=by
 by_cases q:b=a
 ·subst q;rw[ra] at e;cases e
 ·rw[fJ q] at e;exact⟨q,e⟩
theorem ET{φ:Heap->Prop}(x:fN P w H h)(e:H a=some (.ext φ)):fN P w (C4 H a) h:=fun b u q=>by
 obtain⟨hb,q⟩:=CM q;refine(x b u q).stay (fun _ _ _ z=>z) (fun c z=>?_) fun c xs z=>?_
 ·rw[fJ (cK z e (by intro y;cases y))];exact z
 ·rw[fJ (cK z e (by intro y;cases y))];exact z
theorem qF{S:List Addr}{e:Addr}{old:Option Addr}{c:Value}{dx:Option Addr}{fl:Value}{h1 h2:Heap}(u:Un S [] H H' h h1)(t:kZ S e old c dx fl h1 h2)(he:h.get? e=none)(ho:∀T,old=some T->h.get? T=none):Un S [] H H' h h2:=by
 have ne:∀b ob,h.get? b=some ob->b≠e∧some b≠old:=fun b ob q=>⟨fun z=>(by rw[z,he] at q;cases q),fun z=>(by rw[ho b z.symm] at q;cases q)⟩
 refine⟨fun b ob q n hb hx=>t.oth b ob hb (ne b ob q).1 (ne b ob q).2 (u.keep b ob q n hb hx),fun b ob q n hb hx=>?_,u.free,fun b ob q hx=>?_,u.tups,u.frzs,u.tbls⟩
 ·obtain⟨sl,q1⟩:=u.slot b ob q n hb hx;obtain⟨sl',q2⟩:=t.slot b _ hb q1;exact⟨sl',q2⟩
 ·obtain⟨o1,q1⟩:=u.there b ob q hx
  by_cases hb:b∈S
  ·obtain⟨sl',q2⟩:=t.slot b _ hb q1;exact⟨_,q2⟩
  ·exact⟨o1,t.oth b o1 hb (ne b ob q).1 (ne b ob q).2 q1⟩
theorem nU{S:List Addr}{e:Addr}{old:Option Addr}{c:Value}{dx:Option Addr}{fl:Value}{h1 h2:Heap}(x:fN P w H h1)(t:kZ S e old c dx fl h1 h2)(hS:∀b∈S,H b=none)(he:H e=none)(ho:∀T,old=some T->H T=none):fN P w H h2:=fun b u q=>by
 have tr:∀b u,H b=some u->∀ob,h1.get? b=some ob->h2.get? b=some ob:=fun b u q ob g =>
  t.oth b ob (fun z=>by rw[hS b z] at q;cases q) (fun z=>by rw[z,he] at q;cases q) (fun z=>by rw[ho b z.symm] at q;cases q) g
 refine(x b u q).stay (fun c v hc g=>?_) (fun _ z=>z) fun _ _ z=>z;rcases hc with rfl | hc
 ·exact tr c u q v g
 ·exact tr c _ hc v g
end
abbrev vv:List Value:=[.type "Exception",.type "BaseException",.type "object"]
structure XC(K:Frag)(C N fI:Addr)(f:Str):Prop where
 cls:∃nm q bs sn sub ab col dd k0 k1 k2 k3 k5,K.lookup C=some (excClassObj nm q C N bs vv true sn sub ab col dd k0 k1 k2 k3 k5 "Exception.__new__")
 ns:∃oc od es n sl,K.lookup N=some ⟨oc,od,.dict es n,sl⟩∧StrKeys es∧nsFind es "__init__"=some (.ref fI)∧nsFind es "__setattr__"=none∧nsFind es "__getattribute__"=none∧nsFind es "__getattr__"=none∧nsFind es f=none
 fn:∃oI,K.lookup fI=some oI∧oI.cls=.type "function"
 kp:keepIn K (.ref C)=true
 no:typeLookup (.type "Exception") f=pure none
inductive ic(P:Program)(w:World)(C:Addr)(outer:List Env)(H:Hp)(s:Shared)(E:XK)(e:Value)(s':Shared):Prop
 | mk (x dx T:Addr) (H':Hp):e=.ref x->s'.os=s.os->AllBare s'.gens->Un (wj outer) [] H H' s.heap s'.heap->fN P w H' s'.heap->nW s'.heap x (.ref C) (some dx) (.ref T)->rJ s'.heap T .none->T≠x->s.heap.get? x=none->s.heap.get? T=none->H' x=none->H' T=none->E (.ref C) (some dx) H'->ic P w C outer H s E e s'
def Cf(X:Cx)(C:Addr)(E:XK):Prop:=∀(pins:List (Addr×Obj))(σ:L2.St)(H H':Hp)(s s':Shared)(x dx:Addr),aM X pins σ H s->s'.os=s.os->AllBare s'.gens->Un (wj X.stack) [] H H' s.heap s'.heap->fN X.prog X.w H' s'.heap →
 nW s'.heap x (.ref C) (some dx) .none->s.heap.get? x=none->H' x=none->E (.ref C) (some dx) H'->X.xe (.ref x) s'
section
variable{P:Program}{w:World}{K:Frag}{mg:Str->Option Value}{base:Heap}{N:List Str}{qual:Str}{scope:Scope}{f C:Addr}{cd:Value}{A:Around}{outer:List Env}{s0:Shared}{H0:Hp}{E:XK}
theorem bb:dC (ic P w C) (oy (ic P w C) P w K mg base N qual scope f cd A outer s0 H0 E) E:=by
 intro pins σ H s e s' I q;obtain⟨x,dx,T,H',rfl,os,bare,un,hok,xo,en,ne,fx,fT,hx,hT,hE⟩:=q;have I1:=I.call' os un hok bare (ch:=[]) (fun _ z=>nomatch z);show wpAny _ _ (leaving _ (.ref x)) _ _ s';refine E1 (base:=base) (outer:=outer) I.ok.frames I1.stack rfl xo en ne fun h2 t=>?_;obtain⟨T2,n1,n2,n3,n4⟩:=t.new;have un2:Un (wj (oy (ic P w C) P w K mg base N qual scope f cd A outer s0 H0 E).stack) [] H H' s.heap h2:=qF un t fx (fun _ z=>by cases z;exact fT)
 have hok2:fN P w H' h2:=nU hok t I1.stkFree hx (fun _ z=>by cases z;exact hT)
 have I2:=I.call' (s':={s' with heap:=h2}) os un2 hok2 bare (ch:=[]) (fun _ z=>nomatch z)
 have fr0:∀b,s.heap.get? b=none->s0.heap.get? b=none:=fun b z=>by
  cases q:s0.heap.get? b with
  | none=>rfl
  | some ob =>
   obtain⟨o',e'⟩:=I.base.there b ob q (by intro y;exact nomatch y)
   rw[z] at e';cases e'
 have f2:s0.heap.get? T2=none:=LG (Lh I1.sz n1);exact⟨x,dx,T2,H',rfl,I2.os,bare,I2.base,hok2,n3,n4,n2,fr0 x fx,f2,hx,kK hok (LG n1),hE⟩
theorem jC:Cf (oy (ic P w C) P w K mg base N qual scope f cd A outer s0 H0 E) C E:=by
 intro pins σ H H' s s' x dx I os bare un hok xo fx hx hE;have I1:=I.call' os un hok bare (ch:=[]) (fun _ z=>nomatch z);show wpAny _ _ (leaving _ (.ref x)) _ _ s';refine Bs (base:=base) (outer:=outer) I.ok.frames I1.stack rfl xo fun h2 t=>?_;obtain⟨T2,n1,n2,n3,n4⟩:=t.new;have un2:Un (wj (oy (ic P w C) P w K mg base N qual scope f cd A outer s0 H0 E).stack) [] H H' s.heap h2:=qF un t fx (fun _ z=>by cases z)
 have hok2:fN P w H' h2:=nU hok t I1.stkFree hx (fun _ z=>by cases z)
 have I2:=I.call' (s':={s' with heap:=h2}) os un2 hok2 bare (ch:=[]) (fun _ z=>nomatch z)
 have fx0:s0.heap.get? x=none:=by
  cases q:s0.heap.get? x with
  | none=>rfl
  | some ob =>
   obtain⟨o',e'⟩:=I.base.there x ob q (by intro y;exact nomatch y)
   rw[fx] at e';cases e'
 have f2:s0.heap.get? T2=none:=LG (Lh I1.sz n1);exact⟨x,dx,T2,H',rfl,I2.os,bare,I2.base,hok2,n3,n4,n2,fx0,f2,hx,kK hok (LG n1),hE⟩
end
inductive Ck(C:Addr)(f:Str)(D:m6)(σ:L2.St)(y:V)(x:V)(H2:Hp):Prop
 | mk (e:Addr) (oe:Obj) (vs:Array Value):x=.ref e->H2 e=some (XO e oe)->oe.cls=.ref C->oe.dict=none->oe.data=.fields vs->(∀dx,H2 dx=none->dx≠e->D.nx σ (upd (upd H2 dx (.xd [(f,y)])) e (XO e {oe with dict:=some dx})))->Ck C f D σ y x H2
def Io(C:Addr)(ta tv:TE)(f:Str):TS:=fun D σ H=>tv σ H fun y H1=>ta σ H1 fun x H2=>Ck C f D σ y x H2
section
variable{X:Cx}{o value:Expr}{f:Str}{pos pos':Pos}{ta tv:TE}{C N fI:Addr}
theorem EH(c:XC X.K C N fI f)(ha:PE X o ta)(hv:PE X value tv)(hs:swapsWith value (some (.Attribute o f pos')) pos.line X.env=pure false):PS X (.Assign [.Attribute o f pos'] value pos) (Io C ta tv f):=by
 intro pins s σ H D I h;refine plainObj_wpAny_Assign_Attribute (bE (hv pins s σ H _ I h) fun u s1 ⟨y,H1,I1,ry,q⟩=>bE (ha pins s1 σ H1 _ I1 q) fun ov s2 ⟨x,H2,I2,rx,e,oe,vs,ex,ea,hc,hd,hdat,q2⟩=>?_) hs;subst ex;obtain rfl:ov=Value.ref e:=rx;obtain⟨nm,qn,bs,sn,sub,ab,col,dd,k0,k1,k2,k3,k5,lk⟩:=c.cls;obtain⟨oc,od,es,n,sl,ln,sk,ini,nsa,nga,ngt,nf⟩:=c.ns;have kin:=I2.kIn;have hoe:=Dn I2.hok ea;obtain⟨hp,g,d,tk,os⟩:=s2;refine BU PySem.F.store_Exception (kin _ _ lk) ⟨_,es,n,kin _ _ ln,rfl,sk,fun _=>rfl⟩ nsa nf c.no hoe hc hdat hd fun h' tk' st=>?_;have hne:hp.objs.size≠e:=LN (KC hoe);have hfr:hp.get? hp.objs.size=none:=LG (KG _);have H2n:H2 hp.objs.size=none:=kK I2.hok hfr;refine⟨σ,_,?_,q2 hp.objs.size H2n hne⟩;have mu:F9 (H2 e):=by rw[ea];exact True.intro
 have keep:∀b ob,b≠e->hp.get? b=some ob->h'.get? b=some ob:=st.keep
 have un:Un X.fs [] H2 (upd (upd H2 hp.objs.size (.xd [(f,y)])) e (XO e {oe with dict:=some hp.objs.size})) hp h':=by
  have tr:∀b,H2 b=none->b≠e:=fun b z y=>by rw[y,ea] at z;cases z
  have old:∀b ob,hp.get? b=some ob->b≠hp.objs.size:=fun b ob z y=>by rw[y,hfr] at z;cases z
  have oth:∀b u,H2 b=some u->b≠e->upd (upd H2 hp.objs.size (.xd [(f,y)])) e (XO e {oe with dict:=some hp.objs.size}) b=some u:=fun b u z y=>by
   rw[ak y,ak (aq z H2n)];exact z
  refine⟨fun b ob q n _ _=>keep b ob (tr b n) q,fun b ob q n _ _=>⟨ob.slots,keep b ob (tr b n) q⟩,fun b ob q n _=>by rw[ak (tr b n),ak (old b ob q)];exact n,fun b ob q _=>?_,
   fun b xs q=>oth b _ q (cK q ea (by intro z;cases z)),fun b u xs q=>oth b _ q (cK q ea (by intro z;cases z)),fun b ps q=>⟨#[],by rw[oth b _ q (cK q ea (by intro z;cases z))];simp⟩⟩
  by_cases z:b=e
  ·subst z;exact⟨_,st.obj⟩
  ·exact⟨ob,keep b ob z q⟩
 refine I2.un (t':=tk') un fun b u q=>?_
 by_cases z:b=e
 ·subst z;rw[a9] at q;cases q;exact FY st.obj
 ·rw[ak z] at q
  by_cases z2:b=hp.objs.size
  ·subst z2;rw[a9] at q;cases q;refine⟨_,st.ns,fun g'=>?_⟩;show gD (List.lookup g' [(f,y)]) (if g'=f then some u else none)
   by_cases e1:g'=f
   ·subst e1;rw[if_pos rfl];simp[List.lookup];exact ry
   ·rw[if_neg e1];have:(g'==f)=false:=by simpa using e1
    simp[List.lookup,this];exact True.intro
  ·rw[ak z2] at q;refine(I2.hok b u q).stay (fun c' v' hc' g'=>keep c' v' ?_ g') (fun c' g'=>?_) fun c' xs g'=>?_
   ·rcases hc' with rfl | hc'
    ·exact z
    ·exact cK hc' ea (by intro y';cases y')
   ·rw[ak (cK g' ea (by intro y';cases y')),ak (aq g' H2n)];exact g'
   ·rw[ak (cK g' ea (by intro y';cases y')),ak (aq g' H2n)];exact g'
end
inductive CS(C:Addr)(f:Str)(vs:List V)(H:Hp)(Q:VK)(z3_:XK):Prop
 | mk (e:Addr) (oe:Obj) (ws:Array Value) (y:V):vs=[.ref e,y]->H e=some (XO e oe)->oe.cls=.ref C->oe.dict=none->oe.data=.fields ws->(∀dx,H dx=none->dx≠e->Q .non (upd (upd H dx (.xd [(f,y)])) e (XO e {oe with dict:=some dx})))->CS C f vs H Q z3_
def HA(C:Addr)(f:Str)(E:XK)(te:TE):TS:=fun _ σ H=>te σ H fun y H1=>∀dx,H1 dx=none->E (.ref C) (some dx) (upd H1 dx (.xd [(f,y)]))
section
variable{X:Cx}{e:Expr}{f x:Str}{np cpos pos:Pos}{te:TE}{C N fI:Addr}{fd:FuncData}{ps:List Str}{E:XK}{CX:Cc}{k:Nat}
theorem qR(c:XC X.K C N fI f)(F:dh X.prog X.w X.K X.mg X.base CX k fI fd ps (CS C f))(hr:cX (k+1) X.A)(hb:d7 X.K fd ps [])(hx:Cf X C E)(hp:dC CX X fun _ _ _=>False)(hg:Gl X x)(hm:X.mg x=some (.ref C))(hcalm:X.calm=true)
  (he:PE X e te)(hst:starEach [e] X.env=[(false,eval e X.env)]:=by rfl)(hdb:(x==("__debug__":Str))=false:=by decide):PS X (.Raise (some (.Call (.Name x np) [e] [] cpos)) none pos) (HA C f E te):=by
 intro pins s σ H D I h;obtain⟨nm,qn,bs,sn,sub,ab,col,dd,k0,k1,k2,k3,k5,lk⟩:=c.cls;obtain⟨oc,od,es,n,sl,ln,sk,ini,nsa,nga,ngt,nf⟩:=c.ns;obtain⟨oI,lI,cI⟩:=c.fn;rw[arm_exec_Raise];refine wpAny_bind (wpAny_standAt ?_);refine yT (C:=C) (nm:=nm) (q:=qn) (N:=N) (bs:=bs) (bm:=vv) (hdct:=true) (sn:=sn) (sub:=sub) (ab:=ab) (col:=col) (dd:=dd) (k0:=k0) (k1:=k1) (k2:=k2) (k3:=k3) (k5:=k5) (newId:="Exception.__new__") (by decide) (I.ok.hd hcalm) ?_
 refine wpAny_bind ?_;refine bE (Q:=fun v s1=>∃e dx,v=.ref e∧s1.heap.get? C=some (excClassObj nm qn C N bs vv true sn sub ab col dd k0 k1 k2 k3 k5 "Exception.__new__")∧nW s1.heap e (.ref C) dx .none∧X.xe (.ref e) s1) ?_ fun v s1 q=>wpAny_bind (wpAny_standAt (wpAny_pure q));refine wpAny_Call_Name_kw (kC I hg hm ?_ hdb);have h':bZ te gP σ H (fun vs H1=>match vs with | [y]=>∀dx,H1 dx=none->E (.ref C) (some dx) (upd H1 dx (.xd [(f,y)])) | _=>False):=h
 refine PySem.W.callWith_K (h₀:=X.base) I.ok.mod.kin c.kp (bE (a8 he aa hst cpos pins s σ H _ I h') fun us s1 ⟨vs,H1,I1,r,q⟩=>⟨I1.kIn,?_⟩) hst rfl
 match vs,r,q with
 | [y],r,q =>
  have kin:=I1.kIn;obtain⟨hp1,g,d,tk,os⟩:=s1;have hlen:us.length≤sizeLine:=by rw[←r.length];show 1≤sizeLine;decide
  show wpAny _ _ (call (.ref C) us) _ _ _;refine wpAny_call_exc_init (fI:=fI) (oI:=oI) PySem.F.excBase_Exception (kin _ _ lk) ⟨_,es,n,kin _ _ ln,rfl,sk,fun _=>rfl⟩ ini (kin _ _ lI) cI (fun h2 ex made=>?_) hlen;obtain⟨t0,ge,_,_⟩:=made.there;generalize hoe:({cls:=.ref C,data:=.fields #[.ref t0,.none,.none,.none,.bool false,.none]}:Obj)=oe at ge;have n1:H1 ex=none:=kK I1.hok made.new;have I2:aM X pins σ (upd H1 ex (XO ex oe)) ⟨h2,g,d,tk,os⟩:=I1.un (t':=tk) (GH made.keeps made.new n1) (EB I1.hok made.keeps made.new (FY ge))
  have hl:(Value.ref ex::us).length=ps.length:=by
   have e1:=F.len [.ref ex,y] (upd H1 ex (XO ex oe)) (fun _ _=>True) (fun _ _ _=>True) ⟨ex,oe,_,y,rfl,a9,by rw[←hoe],by rw[←hoe],by rw[←hoe],fun _ _ _=>trivial⟩
   have e2:=r.length;simp at e1 e2 ⊢;omega
  have hsp:CS C f [.ref ex,y] (upd H1 ex (XO ex oe)) (fun v H3=>v=.non∧∃dx,H1 dx=none∧dx≠ex∧H3=upd (upd (upd H1 ex (XO ex oe)) dx (.xd [(f,y)])) ex (XO ex {oe with dict:=some dx})) (fun _ _ _=>False) :=
   ⟨ex,oe,_,y,rfl,a9,by rw[←hoe],by rw[←hoe],by rw[←hoe],fun dx hd ne=>⟨rfl,dx,by rw[ak ne] at hd;exact hd,ne,rfl⟩⟩
  refine wpAny_call (codeAny_mono (F.run _ X.stack _ _ ⟨Value.ref ex::us,[]⟩ (Value.ref ex::us) [V.ref ex,y] _ _ (hr.make C us []) (I2.env0.make C us []) (by have:=hb ⟨h2,g,d,tk,os⟩ (Value.ref ex::us) I2.kIn (by rw[Lp];exact hl);rwa [Lp] at this) (.cons rfl r) hsp) fun rr s' hq=>?_)
  cases rr with
  | error e'=>exact hp pins σ _ _ e' s' I2 hq
  | ok fl =>
   cases fl with
   | ret u =>
    obtain⟨v,H3,hos,bare,un,hok,rv,ev,dx,hdx,ne,hH3⟩:=hq;subst ev;have I3:=I2.call' hos un hok bare (ch:=[]) (fun _ z=>nomatch z);have g3:s'.heap.get? ex=some {oe with dict:=some dx}:=Dn hok (by rw[hH3,a9])
    have hdel:C4 H3 ex=upd H1 dx (.xd [(f,y)]):=by
     funext b
     by_cases z:b=ex
     ·subst z;rw[ra,ak (Ne.symm ne),n1]
     ·rw[fJ z,hH3,ak z]
      by_cases z2:b=dx
      ·subst z2;rw[a9,a9]
      ·rw[ak z2,ak z,ak z2]
    have old:∀b ob,hp1.get? b=some ob->b≠ex:=fun b ob q z=>by rw[z,made.new] at q;cases q
    have un1:Un (wj X.stack) [] H1 (C4 H3 ex) hp1 s'.heap:=by
     refine⟨fun b ob q n hb hx=>un.keep b ob (made.keeps b ob q) (by rw[ak (old b ob q)];exact n) hb hx,fun b ob q n hb hx=>un.slot b ob (made.keeps b ob q) (by rw[ak (old b ob q)];exact n) hb hx,
      fun b ob q n hx=>?_,fun b ob q hx=>un.there b ob (made.keeps b ob q) hx,fun b xs q=>?_,fun b u xs q=>?_,fun b pp q=>?_⟩
     ·rw[fJ (old b ob q)];exact un.free b ob (made.keeps b ob q) (by rw[ak (old b ob q)];exact n) hx
     ·have z:=aq q n1;rw[fJ z];exact un.tups b xs (by rw[ak z];exact q)
     ·have z:=aq q n1;rw[fJ z];exact un.frzs b u xs (by rw[ak z];exact q)
     ·have z:=aq q n1;rw[fJ z];exact un.tbls b pp (by rw[ak z];exact q)
    have xo:nW s'.heap ex (.ref C) (some dx) .none:=⟨_,_,g3,by rw[←hoe],rfl,by rw[←hoe],rfl⟩
    refine⟨rv,ex,some dx,rfl,I3.kIn _ _ lk,xo,hx pins σ H1 (C4 H3 ex) ⟨hp1,g,d,tk,os⟩ s' ex dx I1 hos bare un1 (ET hok (by rw[hH3,a9])) xo made.new ra ?_⟩
    rw[hdel];exact q dx hdx
   | next=>exact False.elim hq
   | brk=>exact False.elim hq
   | cont=>exact False.elim hq
end
abbrev Gm(X:Cx)(A':Around)(calm':Bool)(pn':List (Addr×Obj))(xe':Value->Shared->Prop):Cx:={X with A:=A',calm:=calm',pn:=pn',xe:=xe'}
section
variable{X:Cx}{A':Around}{calm':Bool}{pn' pins pins':List (Addr×Obj)}{xe':Value->Shared->Prop}{σ:L2.St}{H:Hp}{s:Shared}
theorem Ha(ok:X.Ok)(hf:A'.frames=X.A.frames)(hc:calm'=true->A'.handled=none):(Gm X A' calm' pn' xe').Ok :=
 ⟨ok.mod,ok.kind,ok.glob,ok.blt,ok.above,ok.inj,ok.has,ok.cab,hc,hf.trans ok.frames,ok.stk,ok.exf,ok.bs,ok.bsz,ok.noex,ok.exfs,ok.funs,ok.frf⟩
theorem uG(I:aM X pins σ H s)(hf:A'.frames=X.A.frames)(hc:calm'=true->A'.handled=none)
  (hp:∀p∈pn'++pins',p∈X.pn++pins∨(s.heap.get? p.1=some p.2∧H p.1=none∧p.1≠X.env.locals∧p.1∉X.fs∧∀v,p.2.data≠.cell v)):aM (Gm X A' calm' pn' xe') pins' σ H s :=
 ⟨Ha I.ok hf hc,I.os,I.bare,I.base,I.loc,I.cell,I.free,I.freeC,fun p q=>(hp p q).elim (I.pin p) id,I.hok,I.len⟩
theorem mG(ok:X.Ok)(J:aM (Gm X A' calm' pn' xe') pins' σ H s)(hp:∀p∈X.pn++pins,p∈pn'++pins'):aM X pins σ H s :=
 ⟨ok,J.os,J.bare,J.base,J.loc,J.cell,J.free,J.freeC,fun p q=>J.pin p (hp p q),J.hok,J.len⟩
end
inductive Dg(x dx:Addr)(f:Str)(Q:VK)(v:V)(H1:Hp):Prop
 | mk (fs y:_):v=.ref x->H1 dx=some (.xd fs)->fs.lookup f=some y->Q y H1->Dg x dx f Q v H1
def FU(x dx:Addr)(f:Str)(te:TE):TE:=fun σ H Q=>te σ H fun v H1=>Dg x dx f Q v H1
theorem Aw{X:Cx}{e:Expr}{f:Str}{pos:Pos}{te:TE}{C N fI x dx:Addr}{oe:Obj}{vs:Array Value}(c:XC X.K C N fI f)(hp:(x,oe)∈X.pn)(hc:oe.cls=.ref C)(hd:oe.dict=some dx)(hdat:oe.data=.fields vs)
  (he:PE X e te)(hb:attributeBase e f X.env (eval e X.env)=eval e X.env):PE X (.Attribute e f pos) (FU x dx f te):=by
 intro pins s σ H Q I h;refine Ax hb (bE (he pins s σ H _ I h) fun u s1 ⟨v,H1,I1,rx,fs,y,ex,hx,l,q⟩=>?_);subst ex;obtain rfl:u=Value.ref x:=rx;obtain⟨nm,qn,bs,sn,sub,ab,col,dd,k0,k1,k2,k3,k5,lk⟩:=c.cls;obtain⟨oc,od,es,n,sl,ln,sk,ini,nsa,nga,ngt,nf⟩:=c.ns;have kin:=I1.kIn;have gx:=(I1.pin (x,oe) (List.mem_append_left _ hp)).1;obtain⟨mA,ns,rel⟩:=(show bB X.prog X.w H1 s1.heap dx (.xd fs) from I1.hok dx _ hx)
 obtain⟨u',hu,ru⟩:=gD.some_of (v:=y) (o:=mA f) (by rw[←l];exact rel f)
 have hand:handedOut u'=pure u':=by
  cases y<;>first | (obtain rfl:u'=_:=ru;rfl) | (obtain⟨t,rfl⟩:=(show ∃t,u'=_ from ru);rfl)
 obtain⟨hp1,g,d,tk,os⟩:=s1;exact Bq PySem.F.attrBase_Exception (kin _ _ lk) ⟨_,es,n,kin _ _ ln,rfl,sk,fun _=>rfl⟩ nga ngt nf c.no gx hc hdat hd ns.ns hu hand ⟨y,H1,I1.tok _,ru,q⟩
theorem qA{X:Cx}{pins:List (Addr×Obj)}{σ:L2.St}{H:Hp}{s:Shared}{a:Addr}{o:Obj}{vs:Array Value}(J:aM X pins σ H s)(g:s.heap.get? a=some o)(hd:o.data=.fields vs)(hn:H a=none) :
  s.heap.get? a=some o∧H a=none∧a≠X.env.locals∧a∉X.fs∧∀v,o.data≠.cell v:=by
 refine⟨g,hn,fun z=>?_,eX J.funs g hd,fun v z=>by rw[hd] at z;cases z⟩
 obtain⟨m,⟨o',es,ep,ho',hd',_⟩,_⟩:=J.loc;rw[←z,g] at ho';cases ho';rw[hd] at hd';cases hd'
theorem kQ{M:Model}{A:Around}{E:Value->Shared->Prop}{X:Cx}{pins:List (Addr×Obj)}{σ:L2.St}{H:Hp}{s:Shared}{i:Nat}{n:Str}{pos:Pos}{Q:Unit->Shared->Prop}(I:aM X pins σ H s)(hN:X.N.Nodup)(hi:X.N[i]?=some n)(hl:X.env.scope.names.lookup n=some .local)
  (h:∀s',aM X pins (σ.set i none) H s'->Q () s'):wpAny M A (do bindName X.env n .none;unbindBehindTheSuite X.env n pos) Q E s:=by
 obtain⟨m,hn,hloc⟩:=id I.loc;have hcls:(X.env.scope.kind==.class||(X.env.scope.kind==.module&&X.env.locals != X.env.globals))=false:=by rw[I.ok.kind];rfl
 have hiσ:i < σ.length:=by rw[I.len];exact(KQ.mp hi).1
 refine wpAny_nameGoes_keeps hl hn hcls fun h' v hn' hs=>h _ ?_;obtain⟨oL,_,_,hoL,_⟩:=id hn;have lo:∀b ob,X.s_0.heap.get? b=some ob->b≠X.env.locals:=fun b ob e=>Lj (KU (KC e) I.ok.above);refine⟨I.ok,I.os,I.bare,⟨fun b o e n' hb hx=>(hs.2 b (lo b o e)).trans (I.base.keep b o e n' hb hx),fun b o e n' hb hx=>?_,I.base.free,fun b o e hx=>?_,I.base.tups,I.base.frzs,I.base.tbls⟩,⟨_,hn',fun j y v' e1 e2 e3=>?_⟩,fun y c e=>?_,I.free,I.freeC,fun p hp=>?_,fun b ob e=>?_,by simpa using I.len⟩
 ·obtain⟨sl,q⟩:=I.base.slot b o e n' hb hx;exact⟨sl,(hs.2 b (lo b o e)).trans q⟩
 ·obtain⟨o',q⟩:=I.base.there b o e hx;exact⟨o',(hs.2 b (lo b o e)).trans q⟩
 ·by_cases hj:j=i
  ·subst hj;rw[LC hiσ] at e2;cases e2
  ·rw[LD (Ne.symm hj)] at e2;obtain⟨u',r',q⟩:=hloc j y v' e1 e2 e3;refine⟨u',r',?_⟩;rcases q with ⟨k,e⟩ | ⟨k,c,e,z⟩
   ·refine .inl ⟨k,?_⟩;have:y≠n:=fun e=>hj (mB hN e1 (e▸hi));simp[this,e]
   ·exact .inr ⟨k,c,e,z.sameBut hs (I.cne y c e)⟩
 ·obtain⟨w',z⟩:=I.cell y c e;exact⟨w',z.sameBut hs (I.cne y c e)⟩
 ·obtain⟨e,n',ne,nf,d⟩:=I.pin p hp;exact⟨(hs.2 p.1 ne).trans e,n',ne,nf,d⟩
 ·refine(I.hok b ob e).stay (fun c w' hc q=>(hs.2 c ?_).trans q) (fun _ q=>q) fun _ _ q=>q;rintro rfl;rcases hc with z | hc
  ·rw[←z,I.free] at e;cases e
  ·rw[I.free] at hc;cases hc
inductive Ex(X:Cx)(C:Addr)(E:XK)(e:Value)(s':Shared):Prop
 | mk (pins:List (Addr×Obj)) (σ:L2.St) (H:Hp) (s:Shared):aM X pins σ H s->ic X.prog X.w C X.stack H s E e s'->Ex X C E e s'
abbrev Fw(X:Cx)(C:Addr)(E:XK)(pn:List (Addr×Obj)):Cx:=Gm X X.A X.calm pn (Ex (Gm X X.A X.calm pn X.xe) C E)
theorem rb{X:Cx}{C:Addr}{E:XK}{pn:List (Addr×Obj)}:dC (ic X.prog X.w C) (Fw X C E pn) E:=fun pins σ H s e s' I q =>
 ⟨pins,σ,H,s,⟨⟨I.ok.mod,I.ok.kind,I.ok.glob,I.ok.blt,I.ok.above,I.ok.inj,I.ok.has,I.ok.cab,I.ok.hd,I.ok.frames,I.ok.stk,I.ok.exf,I.ok.bs,I.ok.bsz,I.ok.noex,I.ok.exfs,I.ok.funs,I.ok.frf⟩,I.os,I.bare,I.base,I.loc,I.cell,I.free,I.freeC,I.pin,I.hok,I.len⟩,q⟩
abbrev Fd(X:Cx)(pn:List (Addr×Obj))(x:Addr)(oe:Obj):Cx:=Gm X (X.A.mark (some (.ref x))) false ((x,oe)::pn) fun _ _=>False
def HR(C:Addr)(E:XK)(i:Nat)(tb:TS)(th:Addr->Addr->TS):TS:=fun D σ H=>tb D σ H∧∀(σ':L2.St)(H':Hp)(x dx:Addr),σ'.length=σ.length->E (.ref C) (some dx) H' →
 th x dx {nx:=fun σ2 H2=>D.nx (σ2.set i none) H2,rt:=D.rt,bk:=fun σ2 H2=>D.bk (σ2.set i none) H2,ct:=fun σ2 H2=>D.ct (σ2.set i none) H2} (σ'.set i (some (.ref x))) H'
theorem E5{X:Cx}{C N fI:Addr}{f:Str}{E:XK}{i:Nat}{n x:Str}{body suite:List Stmt}{b0:Stmt}{np hpos pos:Pos}{tb:TS}{th:Addr->Addr->TS}(c:XC X.K C N fI f)(hcalm:X.calm=true)(hN:X.N.Nodup)(hi:X.N[i]?=some n)(hl:X.env.scope.names.lookup n=some .local)
  (hstk:X.stack=X.env::X.outer)(hfr:X.env.frame=some X.env.locals)(hg:Gl X x)(hm:X.mg x=some (.ref C))(hb:∀pn,yc (Fw X C E pn) body tb)
  (hh:∀(pn:List (Addr×Obj)) (x dx:Addr) (oe:Obj) (vs:Array Value),oe.cls=.ref C->oe.dict=some dx->oe.data=.fields vs->yc (Fd X pn x oe) (b0::suite) (th x dx))(hdb:(x==("__debug__":Str))=false:=by decide) :
  PS X (.Try body [.ExceptHandler (some (.Name x np)) (some n) (b0::suite) hpos] [] [] pos) (HR C E i tb th):=by
 intro pins s σ H D I h;obtain⟨h1,h2⟩:=h;obtain⟨nm,qn,bs,sn,sub,ab,col,dd,k0,k1,k2,k3,k5,lk⟩:=c.cls;have Ib:aM (Fw X C E (X.pn++pins)) [] σ H s:=uG I rfl I.ok.hd (fun p q=>.inl (by rwa [Lp] at q))
 have back:∀{pp:List (Addr×Obj)}{σ':L2.St}{H':Hp}{s':Shared},aM (Fw X C E (X.pn++pins)) pp σ' H' s'->aM X pins σ' H' s':=fun J=>mG I.ok J fun p q=>List.mem_append_left _ q;refine wpAny_Try_except (wpAny_mono (hb (X.pn++pins) [] s σ H D Ib h1) (fun fl s1 q=>?_) fun e s1 q=>?_)
 ·cases fl with
  | next=>obtain⟨σ',H',J,q⟩:=q;exact wpAny_execs_nil ⟨σ',H',back J,q⟩
  | brk=>obtain⟨σ',H',J,q⟩:=q;exact⟨σ',H',back J,q⟩
  | cont=>obtain⟨σ',H',J,q⟩:=q;exact⟨σ',H',back J,q⟩
  | ret u=>obtain⟨v,σ',H',J,r,q⟩:=q;exact⟨v,σ',H',back J,r,q⟩
 ·obtain⟨pp,σ',H0,s0,J,ex,dx,T,H',rfl,os,bare,un,hok,xo,en,ne,fx,fT,nx,nT,hE⟩:=q;have J:aM X pins σ' H0 s0:=mG I.ok J fun p q=>List.mem_append_left _ q;have J1:=J.call' os un hok bare (ch:=[]) (fun _ z=>nomatch z);have st1:=J1.stack;rw[hstk] at st1;refine Au (base:=X.base) (outer:=X.outer) (by rw[I.ok.frames,hstk]) st1 hfr xo en ne fun hA t=>?_
  obtain⟨T2,n1,n2,n3,n4⟩:=t.new;refine jc (s:={s1 with heap:=hA}) n3 n4 n2 fun hB kp xo2 en2=>?_
  have t2:=t.off n1 n2 kp xo2 en2;have frsE:(X.env::X.outer).filterMap (·.frame)=wj X.stack:=by rw[hstk];rfl
  rw[frsE] at t2;have un2:Un (wj X.stack) [] H0 H' s0.heap hB:=qF un t2 fx (fun _ z=>by cases z;exact fT)
  have hok2:fN X.prog X.w H' hB:=nU hok t2 J1.stkFree nx (fun _ z=>by cases z;exact nT)
  have J2:aM X pins σ' H' {s1 with heap:=hB}:=J.call' (s':={s1 with heap:=hB}) os un2 hok2 bare (ch:=[]) (fun _ z=>nomatch z)
  obtain⟨oe,vs,gx,xc,xd,xdat,x1⟩:=xo2.ex;obtain⟨oT,ts,gT,Tdat,T3⟩:=en2.ex;have nT2:H' T2=none:=kK hok (LG n1);have px:=qA J2 gx xdat nx;have pT:=qA J2 gT Tdat nT2;have tg:PE (Gm X (X.A.mark (some (.ref ex))) false ((ex,oe)::(T2,oT)::(X.pn++pins)) fun _ _=>False) (.Name x np) (tC (.ref C)):=bo hg hm rfl hdb
  have Jt:aM (Gm X (X.A.mark (some (.ref ex))) false ((ex,oe)::(T2,oT)::(X.pn++pins)) fun _ _=>False) [] σ' H' {s1 with heap:=hB}:=uG J2 rfl (fun z=>by cases z) (fun p q=>by
   rw[Lp] at q;rcases List.mem_cons.mp q with rfl | q
   ·exact .inr px
   rcases List.mem_cons.mp q with rfl | q
   ·exact .inr pT
   exact .inl q)
  refine wpAny_handleBy_cons (codeAny_handlers_test (wpAny_mono (tg [] _ σ' H' (fun v H2=>v=.ref C∧H2=H') Jt ⟨rfl,rfl⟩) (fun cv s3 q3=>?_) fun _ _ z=>False.elim z)) (by intro q;cases q)
  obtain⟨v,H2,J3,rv,rfl,rfl⟩:=q3;obtain rfl:cv=.ref C:=rv;have gx3:=(J3.pin (ex,oe) (List.mem_append_left _ KJ)).1;have gT3:=(J3.pin (T2,oT) (List.mem_append_left _ (KH _ KJ))).1;have kin3:=J3.kIn;obtain⟨hp3,g3,d3,tk3,os3⟩:=s3;refine wpAny_excMatches_sub_self (kin3 _ _ lk) gx3 xc (by decide) (codeAny_handlers_suite_as ?_)
  refine jc (T:=T2) ⟨oe,vs,gx3,xc,xd,xdat,x1⟩ ⟨oT,ts,gT3,Tdat,T3⟩ n2 fun h5 k5' xo5 _=>?_;have gx5:h5.get? ex=some oe:=by rw[k5' ex (Ne.symm n2)];exact gx3
  have J3':aM X pins σ' H2 ⟨hp3,g3,d3,tk3,os3⟩:=mG I.ok J3 fun p q=>List.mem_append_left _ (KH _ (KH _ q))
  have J5:aM X pins σ' H2 ⟨h5,g3,d3,tk3,os3⟩:=J3'.turned (it:=T2) (t':=tk3) (fun b o hb q=>by rw[k5' b hb];exact q) nT2 pT.2.2.1 (.inr (Lh J1.sz n1))
   (fun y c' e z=>by
    obtain⟨v',o',go',d'⟩:=J3'.cell y c' e;rw[z,gT3] at go';cases go';rw[Tdat] at d';cases d')
   (fun p hp z=>by
    have z1:=(J1.pin p hp).1;rw[z,LG n1] at z1;cases z1)
  have px5:=qA J5 gx5 xdat nx
  have Js:aM (Fd X (X.pn++pins) ex oe) [] σ' H2 ⟨h5,g3,d3,tk3,os3⟩:=uG J5 rfl (fun z=>by cases z) (fun p q=>by
   rw[Lp] at q;rcases List.mem_cons.mp q with rfl | q
   ·exact .inr px5
   exact .inl q)
  refine nv (X:=Fd X (X.pn++pins) ex oe) (v:=.ref ex) Js hN hi (.inl hl) rfl (fun s6 J6=>?_) (.inr hl);have hlen:σ'.length=σ.length:=by rw[J.len,I.len]
  refine wpAny_mono (hh (X.pn++pins) ex dx oe vs xc xd xdat [] s6 _ H2 _ J6 (h2 σ' H2 ex dx hlen hE)) (fun fl s7 q7=>?_) fun _ _ z=>False.elim z;have bk:∀{pp:List (Addr×Obj)}{σ2:L2.St}{H3:Hp},aM (Fd X (X.pn++pins) ex oe) pp σ2 H3 s7->aM X pins σ2 H3 s7:=fun Z=>mG I.ok Z fun p q=>List.mem_append_left _ (KH _ q);cases fl with
  | next=>obtain⟨σ2,H3,J7,q⟩:=q7;exact kQ (bk J7) hN hi hl fun s8 J8=>⟨_,H3,J8,q⟩
  | brk=>obtain⟨σ2,H3,J7,q⟩:=q7;exact kQ (bk J7) hN hi hl fun s8 J8=>⟨_,H3,J8,q⟩
  | cont=>obtain⟨σ2,H3,J7,q⟩:=q7;exact kQ (bk J7) hN hi hl fun s8 J8=>⟨_,H3,J8,q⟩
  | ret u=>obtain⟨v,σ2,H3,J7,r,q⟩:=q7;exact kQ (bk J7) hN hi hl fun s8 J8=>⟨v,_,H3,J8,r,q⟩
end XL
namespace VM
open Vbavai
def Cb(c:Nat):Bool:=(decide (48≤c)&&decide (c≤57))||(decide (65≤c)&&decide (c≤90))||(decide (97≤c)&&decide (c≤122))
def ny(c:Nat):Nat:=if(Cb c||c==40||c==41)=true then c else 63
def yg(c:Nat):List Nat:=if Cb c=true then [c] else if c=40 then [32,40,32] else if c=41 then [32,41,32] else if c=32∨c=10 then [32] else [63]
def jS:List Nat->List Nat->List (List Nat)
 | acc,[]=>[acc]
 | acc,c::r=>if c=32 then acc::jS [] r else jS (acc++[c]) r
def vd(w:List Nat):Bool:=!w.isEmpty
theorem gH(acc r:List Nat):jS acc (32::r)=acc::jS [] r:=by
 show(if(32:Nat)=32 then _ else _)=_;rw[if_pos rfl]
theorem ma{c:Nat}(h:c≠32)(acc r:List Nat):jS acc (c::r)=jS (acc++[c]) r:=by
 show(if c=32 then _ else _)=_;rw[if_neg h]
theorem fq(w:List Nat)(l:List (List Nat)):(w::l).filter vd=(if w.isEmpty=true then [] else [w])++l.filter vd:=by
 rw[LK];cases w with
 | nil=>rfl
 | cons a b=>rfl
theorem fH(w:List Nat):(w.reverse.map ny).isEmpty=w.isEmpty:=by
 cases w with
 | nil=>rfl
 | cons a b=>simp
theorem fR:∀(b w:List Nat),(jS (w.reverse.map ny) (b.flatMap yg)).filter vd=(tokens b w).map (List.map ny)
 | [],w=>by
  show([w.reverse.map ny]:List (List Nat)).filter vd=_;rw[fq,fH];unfold tokens
  by_cases h:w.isEmpty=true
  ·rw[if_pos h,if_pos h];rfl
  ·rw[if_neg h,if_neg h];rfl
 | c::r,w=>by
  rw[Lz];unfold tokens
  by_cases hb:blank c=true
  ·rw[if_pos hb];have hc:c=32∨c=10:=by simpa [blank] using hb
   have ht:yg c=[32]:=by rcases hc with rfl | rfl<;>rfl
   rw[ht];show(jS _ (32::r.flatMap yg)).filter vd=_;rw[gH,fq,fH,KO];have ih:=fR r [];rw[show([]:List Nat).reverse.map ny=[] from rfl] at ih
   rw[ih]
   by_cases h:w.isEmpty=true
   ·rw[if_pos h,if_pos h];rfl
   ·rw[if_neg h,if_neg h];rfl
  ·rw[if_neg hb]
   by_cases hs:single c=true
   ·rw[if_pos hs];have hc:c=40∨c=41:=by simpa [single] using hs
    have ht:yg c=[32,c,32]:=by rcases hc with rfl | rfl<;>rfl
    have hn:c≠32:=by rcases hc with rfl | rfl<;>decide
    have hp:ny c=c:=by rcases hc with rfl | rfl<;>rfl
    rw[ht];show(jS _ (32::c::32::r.flatMap yg)).filter vd=_;rw[gH,ma hn,gH,fq,fq,fH,KO,KR];have ih:=fR r [];rw[show([]:List Nat).reverse.map ny=[] from rfl] at ih
    rw[ih];have e1:List.map ny [c]=[c]:=by rw[KR,hp];rfl
    rw[e1]
    by_cases h:w.isEmpty=true
    ·rw[if_pos h,if_pos h];rfl
    ·rw[if_neg h,if_neg h];rfl
   ·rw[if_neg hs];have h1:¬(c=32∨c=10):=by simpa [blank] using hb
    have h2:¬(c=40∨c=41):=by simpa [single] using hs
    have h40:c≠40:=fun e=>h2 (.inl e);have h41:c≠41:=fun e=>h2 (.inr e);have hal:Cb 32=false:=rfl
    have ht:yg c=[ny c]∧ny c≠32:=by
     unfold yg ny
     by_cases ha:Cb c=true
     ·rw[if_pos ha,if_pos (by rw[ha];rfl)]
      exact⟨rfl,fun e=>h1 (.inl e)⟩
     ·have hb1:(c==40)=false:=by simpa using h40
      have hb2:(c==41)=false:=by simpa using h41
      rw[if_neg ha,if_neg h40,if_neg h41,if_neg h1,if_neg (by simp[ha,hb1,hb2])]
      exact⟨rfl,by decide⟩
    rw[ht.1];show(jS _ (ny c::r.flatMap yg)).filter vd=_;rw[ma ht.2];have ih:=fR r (c::w);rw[List.reverse_cons,KO] at ih;exact ih
def j0(c:Nat):Bool:=Cb c||c==40||c==41
theorem GR{c k:Nat}(hk:j0 k=true)(h:ny c=k):c=k:=by
 unfold ny at h
 by_cases hc:(Cb c||c==40||c==41)=true
 ·rw[if_pos hc] at h;exact h
 ·rw[if_neg hc] at h;subst h;exact absurd hk (by decide)
theorem tN{k:Nat}(hk:j0 k=true):ny k=k:=by unfold ny;exact if_pos hk
theorem j6:∀{w kw:List Nat},kw.all j0=true->(w.map ny=kw↔w=kw)
 | [],[],_=>⟨fun _=>rfl,fun _=>rfl⟩
 | [],_::_,_=>⟨fun h=>by simp at h,fun h=>by simp at h⟩
 | _::_,[],_=>⟨fun h=>by simp at h,fun h=>by simp at h⟩
 | c::w,k::kw,h=>by
  rw[List.all_cons,L7] at h
  constructor
  ·intro e;rw[KR] at e;injection e with e1 e2
   rw[GR h.1 e1,(j6 h.2).mp e2]
  ·intro e;injection e with e1 e2
   subst e1;subst e2;rw[KR,tN h.1,(j6 h.2).mpr rfl]
theorem Bw(c:Nat):digit (ny c)=digit c:=by
 unfold ny
 by_cases hc:(Cb c||c==40||c==41)=true
 ·rw[if_pos hc]
 ·rw[if_neg hc];cases h:digit c with
  | false=>rfl
  | true =>
   exfalso
   apply hc;have hd:(decide (48≤c)&&decide (c≤57))=true:=h;have:Cb c=true:=by unfold Cb;rw[hd];rfl
   rw[this];rfl
theorem sy(w:List Nat):(w.map ny).all digit=w.all digit:=by
 induction w with
 | nil=>rfl
 | cons a b ih=>rw[KR,List.all_cons,List.all_cons,Bw,ih]
theorem jJ:∀{w:List Nat},w.all digit=true->w.map ny=w
 | [],_=>rfl
 | c::w,h=>by
  rw[List.all_cons,L7] at h;have hd:(decide (48≤c)&&decide (c≤57))=true:=h.1;have:j0 c=true:=by unfold j0 Cb;rw[hd];rfl
  rw[KR,tN this,jJ h.2]
theorem kF:∀(b w:List Nat),∀t∈tokens b w,t≠[]
 | [],w,t,h=>by
  unfold tokens at h
  by_cases hw:w.isEmpty=true
  ·rw[if_pos hw] at h;cases h
  ·rw[if_neg hw] at h;rw[Lq.mp h];intro e;apply hw;simpa using e
 | c::r,w,t,h=>by
  have before:∀t,t∈(if w.isEmpty=true then [] else [w.reverse])->t≠[]:=fun t h=>by
   by_cases hw:w.isEmpty=true
   ·rw[if_pos hw] at h;cases h
   ·rw[if_neg hw] at h;rw[Lq.mp h];intro e;apply hw;simpa using e
  unfold tokens at h
  by_cases hb:blank c=true
  ·rw[if_pos hb] at h;rcases Lb.mp h with h | h
   ·exact before t h
   ·exact kF r [] t h
  ·rw[if_neg hb] at h
   by_cases hs:single c=true
   ·rw[if_pos hs] at h;rcases Lb.mp h with h | h
    ·exact before t h
    ·rcases List.mem_cons.mp h with rfl | h
     ·simp
     ·exact kF r [] t h
   ·rw[if_neg hs] at h;exact kF r (c::w) t h
theorem md:∀(b w:List Nat),(tokens b w).length≤b.length+(if w.isEmpty=true then 0 else 1)
 | [],w=>by
  unfold tokens
  by_cases hw:w.isEmpty=true
  ·rw[if_pos hw,if_pos hw];exact KZ _
  ·rw[if_neg hw,if_neg hw];exact KG _
 | c::r,w=>by
  have hb1:(if w.isEmpty=true then([]:List (List Nat)) else [w.reverse]).length=(if w.isEmpty=true then 0 else 1):=by split<;>rfl
  have i0:=md r [];rw[if_pos (show([]:List Nat).isEmpty=true from rfl)] at i0
  unfold tokens
  by_cases hb:blank c=true
  ·rw[if_pos hb,Ky,hb1,Kx];omega
  ·rw[if_neg hb]
   by_cases hs:single c=true
   ·rw[if_pos hs,Ky,hb1,Kx,Kx];omega
   ·rw[if_neg hs];have i1:=md r (c::w);rw[if_neg (by simp)] at i1
    rw[Kx];omega
def jN(x y:List Bool):List Bool:=(x.zip y).map fun p=>p.1&&p.2
def eD(x y:List Bool):List Bool:=(x.zip y).map fun p=>p.1||p.2
def fF(x y:List Bool):List Bool:=(x.zip y).map fun p=>p.1 != p.2
def C8(g:Graph)(x:List Bool):List Bool:=g.map fun nd=>nd.next.any (mem x)
theorem jQ{x y:List Bool}{n:Nat}(hx:x.length=n)(hy:y.length=n):(jN x y).length=n:=by
 unfold jN;rw[Kv,List.length_zip,hx,hy];exact Nat.min_self n
theorem r9{x y:List Bool}{n:Nat}(hx:x.length=n)(hy:y.length=n):(eD x y).length=n:=by
 unfold eD;rw[Kv,List.length_zip,hx,hy];exact Nat.min_self n
theorem dU(g:Graph)(x:List Bool):(C8 g x).length=g.length:=Kv ..
theorem bA(g:Graph)(p:Nat->Bool):(build g p).length=g.length:=by
 unfold build order;rw[Kv,La]
theorem uq{g:Graph}{p:Nat->Bool}{i:Nat}(h:i < g.length):(build g p)[i]?=some (p i):=by
 unfold build order;rw[Kw,List.getElem?_range h];rfl
theorem kJ{g:Graph}{p:Nat->Bool}{i:Nat}(h:i < g.length):mem (build g p) i=p i:=by
 unfold mem;rw[KP,uq h];rfl
theorem kx{x:List Bool}{i:Nat}(h:i < x.length):x[i]?=some (mem x i):=by
 unfold mem;rw[KP,Kz h];rfl
theorem gA{g:Graph}{x:List Bool}{p:Nat->Bool}(hx:x.length=g.length)(h:∀i,i < g.length->mem x i=p i):build g p=x:=by
 apply List.ext_getElem?;intro i
 by_cases hi:i < g.length
 ·rw[uq hi,kx (by omega),h i hi]
 ·rw[L8 (by rw[bA];omega),L8 (by omega)]
theorem qG{f:Bool->Bool->Bool}{x y:List Bool}{i:Nat}(hx:i < x.length)(hy:i < y.length):mem ((x.zip y).map fun p=>f p.1 p.2) i=f (mem x i) (mem y i):=by
 have e:(x.zip y)[i]?=some (mem x i,mem y i):=List.getElem?_zip_eq_some.mpr ⟨kx hx,kx hy⟩;show List.getD _ _ _=_;rw[KP,Kw,e];rfl
theorem mF{x y:List Bool}{i:Nat}(hx:i < x.length)(hy:i < y.length):mem (jN x y) i=(mem x i&&mem y i):=qG (f:=and) hx hy
theorem qj{x y:List Bool}{i:Nat}(hx:i < x.length)(hy:i < y.length):mem (eD x y) i=(mem x i||mem y i):=qG (f:=or) hx hy
theorem yB{x y:List Bool}{i:Nat}(hx:i < x.length)(hy:i < y.length):mem (fF x y) i=(mem x i != mem y i):=qG (f:=bne) hx hy
theorem yK{x y:List Bool}{n:Nat}(hx:x.length=n)(hy:y.length=n):(fF x y).length=n:=by
 unfold fF;rw[Kv,List.length_zip];omega
theorem aT{g:Graph}{i:Nat}(h:i < g.length):g[i]?=some (nodeAt g i):=by
 unfold nodeAt;rw[KP,Kz h];rfl
theorem mM{g:Graph}{x:List Bool}{i:Nat}(h:i < g.length):mem (C8 g x) i=some_ g x i:=by
 unfold mem C8 some_;rw[KP,Kw,aT h];rfl
theorem Fc{x:List Bool}{i:Nat}(h:i < x.length):mem (x.map (!·)) i=!mem x i:=by
 have e:=kx h;unfold mem at e ⊢;rw[KP,Kw,e];rfl
theorem tQ{g:Graph}{q:Node->Bool}:build g (fun i=>q (nodeAt g i))=g.map q:=by
 refine gA (Kv ..) fun i hi=>?_;unfold mem;rw[KP,Kw,aT hi];rfl
theorem yx(g:Graph):(build g fun _=>true)=g.map fun _=>true:=tQ (q:=fun _=>true)
theorem yL(g:Graph)(m:Nat):(build g fun i=>(nodeAt g i).marks.testBit m)=g.map fun nd=>nd.marks.testBit m:=tQ (q:=fun nd=>nd.marks.testBit m)
theorem CH(g:Graph)(x:List Bool):build g (some_ g x)=C8 g x:=gA (dU g x) fun _ hi=>mM hi
theorem Bv{g:Graph}{x:List Bool}(hx:x.length=g.length):(build g fun i=>!mem x i)=x.map (!·):=gA (by rw[Kv];exact hx) fun _ hi=>Fc (by omega)
theorem nV{g:Graph}{x y:List Bool}(hx:x.length=g.length)(hy:y.length=g.length):(build g fun i=>mem x i&&mem y i)=jN x y:=gA (jQ hx hy) fun _ hi=>mF (by omega) (by omega)
theorem Ea{g:Graph}{x y:List Bool}(hx:x.length=g.length)(hy:y.length=g.length):(build g fun i=>mem x i||mem y i)=eD x y:=gA (r9 hx hy) fun _ hi=>qj (by omega) (by omega)
theorem Fz{g:Graph}{f h x:List Bool}(hf:f.length=g.length)(hh:h.length=g.length):grow g f h x=eD h (jN f (C8 g x)) :=
 gA (r9 hh (jQ hf (dU g x))) fun i hi=>by
  rw[qj (by omega) (by rw[jQ hf (dU g x)];exact hi),mF (by omega) (by rw[dU];exact hi),mM hi]
theorem tP{g:Graph}{x:List Bool}(hx:x.length=g.length):shrink g x=jN x (C8 g x) :=
 gA (jQ hx (dU g x)) fun i hi=>by rw[mF (by omega) (by rw[dU];exact hi),mM hi]
theorem bI{α:Type}(f:α->α):∀(n:Nat)(x:α),times f (n+1) x=f (times f n x)
 | 0,_=>rfl
 | n+1,x=>bI f n (f x)
theorem dH{g:Graph}{f:List Bool->List Bool}(hf:∀x,(f x).length=g.length){x:List Bool}(hx:x.length=g.length):∀n,(times f n x).length=g.length
 | 0=>hx
 | n+1=>by rw[bI];exact hf _
theorem bc(g:Graph):∀f:F,(sat g f).length=g.length
 | .tru=>bA ..
 | .mark _=>bA ..
 | .not _=>bA ..
 | .and _ _=>bA ..
 | .or _ _=>bA ..
 | .next _=>bA ..
 | .until_ f h=>dH (fun _=>bA ..) (bc g h) _
 | .within k f h=>dH (fun _=>bA ..) (bc g h) _
 | .ever f=>dH (fun _=>bA ..) (bc g f) _
def Sub(x y:List Bool):Prop:=∀i,mem x i=true->mem y i=true
theorem Ds{p q:Nat->Bool}{l:List Nat}(h:∀i,p i=true->q i=true)(e:l.any p=true):l.any q=true:=by
 rw[List.any_eq_true] at e ⊢;obtain⟨i,hi,hp⟩:=e;exact⟨i,hi,h i hp⟩
theorem tp{g:Graph}{x y:List Bool}(h:Sub x y)(i:Nat)(e:some_ g x i=true):some_ g y i=true:=Ds h e
theorem qi(g:Graph)(x:List Bool):Sub (shrink g x) x:=fun i h=>by
 by_cases hi:i < g.length
 ·unfold shrink at h;rw[kJ hi,L7] at h;exact h.1
 ·unfold mem at h;rw[KP,L8 (by unfold shrink;rw[bA];omega)] at h
  cases h
def lK(g:Graph)(t s:List Bool):List Bool:=jN t (C8 g s)
theorem uw{g:Graph}{t:List Bool}(ht:t.length=g.length):∀n,times (lK g t) n t=times (shrink g) n t
 | 0=>rfl
 | 1=>(tP ht).symm
 | n+2=>by
  have h1:=uw ht (n+1);have h0:=uw ht n;have l1:(times (shrink g) (n+1) t).length=g.length:=dH (fun _=>bA ..) ht _;have l0:(times (shrink g) n t).length=g.length:=dH (fun _=>bA ..) ht _;rw[bI (lK g t) (n+1),h1,bI (shrink g) (n+1),tP l1];have e1:times (shrink g) (n+1) t=lK g t (times (shrink g) n t):=by rw[←h1,bI,h0]
  have sub:Sub (times (shrink g) (n+1) t) (times (shrink g) n t):=by rw[bI];exact qi g _
  unfold lK;rw[←nV ht (dU g _),←nV l1 (dU g _)];unfold build;refine List.map_congr_left fun i hi=>?_;have hi':i < g.length:=List.mem_range.mp hi;rw[mM hi']
  have e2:mem (times (shrink g) (n+1) t) i=(mem t i&&some_ g (times (shrink g) n t) i):=by
   rw[e1];unfold lK;rw[mF (by omega) (by rw[dU];exact hi'),mM hi']
  rw[e2];cases hs:some_ g (times (shrink g) (n+1) t) i with
  | false=>simp
  | true=>rw[tp sub i hs];simp
def mapR(mk:F->F):R->R
 | .error e=>.error e
 | .ok (f,t)=>.ok (mk f,t)
theorem nG(n d:Nat):Vbavai.read (n+1) 1 d []=.error 0:=by simp only[Vbavai.read];rfl
theorem km(n d:Nat)(r:List Bytes):Vbavai.read (n+1) 1 d (text "true"::r)=.ok (.tru,r):=by
 simp only[Vbavai.read,Nat.one_ne_zero,if_false,if_true]
theorem tW(n d:Nat)(r:List Bytes){i:Nat}(h:i < 4):Vbavai.read (n+1) 1 d ([109,48+i]::r)=.ok (.mark i,r):=by
 match i,h with
 | 0,_=>rfl
 | 1,_=>rfl
 | 2,_=>rfl
 | 3,_=>rfl
theorem nP(n:Nat)(r:List Bytes):Vbavai.read (n+1) 1 0 ([40]::r)=.error (r.length+1):=rfl
theorem ke(n d:Nat)(r:List Bytes):Vbavai.read (n+1) 1 (d+1) ([40]::r)=(match Vbavai.read n 0 d r with
  | .error e=>.error e
  | .ok (f,t1)=>match t1 with
   | v::r1=>if v=[41] then .ok (f,r1) else .error t1.length
   | []=>.error 0):=rfl
theorem nN(n:Nat)(r:List Bytes){w:Bytes}{mk:F->F}(h:oneOf w=some mk):Vbavai.read (n+1) 1 0 (w::r)=.error (r.length+1):=by
 have h1:w≠text "true":=fun e=>by subst e;cases h
 have h2:w≠[40]:=fun e=>by subst e;cases h
 simp only[Vbavai.read,Nat.one_ne_zero,if_false,if_neg h1,if_neg h2,h,if_true,Kx]
theorem mW(n d:Nat)(r:List Bytes){w:Bytes}{mk:F->F}(h:oneOf w=some mk):Vbavai.read (n+1) 1 (d+1) (w::r)=mapR mk (Vbavai.read n 1 d r):=by
 have h1:w≠text "true":=fun e=>by subst e;cases h
 have h2:w≠[40]:=fun e=>by subst e;cases h
 simp only[Vbavai.read,Nat.one_ne_zero,if_false,if_neg h1,if_neg h2,h,Nat.add_one_ne_zero,Nat.add_sub_cancel];cases Vbavai.read n 1 d r<;>rfl
theorem iX(n d:Nat)(r:List Bytes){w:Bytes}(h1:w≠text "true")(h2:w≠[40])(h3:oneOf w=none)(h4:markOf w=none):Vbavai.read (n+1) 1 d (w::r)=.error (r.length+1):=by
 simp only[Vbavai.read,Nat.one_ne_zero,if_false,if_neg h1,if_neg h2,h3,h4,Kx]
theorem wB{w:Bytes}(h:∀i,i < 4->w≠[109,48+i]):markOf w=none:=by
 unfold markOf
 split
 ·rename_i d
  split
  ·rename_i hd
   exact absurd (show([109,d]:Bytes)=[109,48+(d - 48)] by rw[Nat.add_sub_of_le hd.1]) (h (d - 48) (by omega))
  ·rfl
 ·rfl
theorem yG{w:Bytes}(h:∀x∈["not","EX","AX","EF","AF","EG","AG"],w≠text x):oneOf w=none:=by
 unfold oneOf;rw[if_neg (h _ (by simp)),if_neg (h _ (by simp)),if_neg (h _ (by simp)),if_neg (h _ (by simp)),if_neg (h _ (by simp)),if_neg (h _ (by simp)),if_neg (h _ (by simp))]
theorem gv{n d:Nat}{t:List Bytes}{e:Nat}(h:Vbavai.read n 1 d t=.error e):Vbavai.read (n+1) 0 d t=.error e:=by
 simp only[Vbavai.read,if_true,h]
theorem gj{n d:Nat}{t:List Bytes}{f:F}(h:Vbavai.read n 1 d t=.ok (f,[])):Vbavai.read (n+1) 0 d t=.ok (f,[]):=by
 simp only[Vbavai.read,if_true,h]
theorem gi{n d:Nat}{t r:List Bytes}{f:F}(h:Vbavai.read n 1 d t=.ok (f,text "and"::r)):Vbavai.read (n+1) 0 d t=mapR (F.and f) (Vbavai.read n 1 d r):=by
 simp only[Vbavai.read,if_true,h];cases Vbavai.read n 1 d r<;>rfl
theorem gQ{n d:Nat}{t r:List Bytes}{f:F}(h:Vbavai.read n 1 d t=.ok (f,text "or"::r)):Vbavai.read (n+1) 0 d t=mapR (F.or f) (Vbavai.read n 1 d r):=by
 simp only[Vbavai.read,if_true,h];rw[if_neg (by decide)]
 cases Vbavai.read n 1 d r<;>rfl
theorem gO{n d:Nat}{t r:List Bytes}{f:F}(h:Vbavai.read n 1 d t=.ok (f,text "AU"::r)):Vbavai.read (n+1) 0 d t=mapR (allUntil f) (Vbavai.read n 1 d r):=by
 simp only[Vbavai.read,if_true,h];rw[if_neg (by decide),if_neg (by decide)]
 cases Vbavai.read n 1 d r<;>rfl
theorem dS{n d:Nat}{t r:List Bytes}{f:F}(h:Vbavai.read n 1 d t=.ok (f,text "EU"::r))(hk:∀k r1,r=k::r1->upTo 12 k=none):Vbavai.read (n+1) 0 d t=mapR (F.until_ f) (Vbavai.read n 1 d r):=by
 simp only[Vbavai.read,if_true,h];rw[if_neg (by decide),if_neg (by decide),if_neg (by decide)]
 cases r with
 | nil=>rfl
 | cons k r1 =>
  simp only[hk k r1 rfl];cases Vbavai.read n 1 d (k::r1)<;>rfl
theorem gy{n d m:Nat}{t r:List Bytes}{f:F}{k:Bytes}(h:Vbavai.read n 1 d t=.ok (f,text "EU"::k::r))(hk:upTo 12 k=some m):Vbavai.read (n+1) 0 d t=mapR (F.within m f) (Vbavai.read n 1 d r):=by
 simp only[Vbavai.read,if_true,h];rw[if_neg (by decide),if_neg (by decide),if_neg (by decide)]
 simp only[hk];cases Vbavai.read n 1 d r<;>rfl
theorem fD{n d:Nat}{t r:List Bytes}{f:F}{w:Bytes}(h:Vbavai.read n 1 d t=.ok (f,w::r))(h1:w≠text "and")(h2:w≠text "or")(h3:w≠text "AU")(h4:w≠text "EU"):Vbavai.read (n+1) 0 d t=.ok (f,w::r):=by
 simp only[Vbavai.read,if_true,h];rw[if_neg h1,if_neg h2,if_neg h3,if_neg h4]
structure fL(t:List Bytes)(r:R):Prop where
 ok:∀f u,r=.ok (f,u)->∃k,1≤k∧k≤t.length∧u=t.drop k
 er:∀e,r=.error e->e≤t.length
theorem fL.err{t:List Bytes}{e:Nat}(h:e≤t.length):fL t (.error e):=⟨fun _ _ q=>(by cases q),fun _ q=>(by cases q;exact h)⟩
theorem fL.tail{w:Bytes}{t:List Bytes}{r:R}(h:fL t r):fL (w::t) r :=
 ⟨fun f u q=>by obtain⟨k,a,b,c⟩:=h.ok f u q;exact⟨k+1,by omega,by rw[Kx];omega,by rw[List.drop_succ_cons];exact c⟩,fun e q=>by have:=h.er e q;rw[Kx];omega⟩
theorem fL.one{w:Bytes}{t:List Bytes}{f:F}:fL (w::t) (.ok (f,t)):=⟨fun _ _ q=>by cases q;exact⟨1,KG _,by simp,rfl⟩,fun _ q=>by cases q⟩
theorem fL.drop{t:List Bytes}{k:Nat}{r:R}(h:fL (t.drop k) r)(hk:k≤t.length):fL t r :=
 ⟨fun f u q=>by obtain⟨j,a,b,c⟩:=h.ok f u q;rw[List.length_drop] at b;exact⟨k+j,by omega,by omega,by rw[c,List.drop_drop]⟩,fun e q=>by have:=h.er e q;rw[List.length_drop] at this;omega⟩
theorem fL.mapR{t:List Bytes}{r:R}(h:fL t r)(mk:F->F):fL t (VM.mapR mk r):=by
 cases r with
 | error e=>exact .err (h.er e rfl)
 | ok p=>exact⟨fun f u q=>by cases q;exact h.ok _ _ rfl,fun _ q=>by cases q⟩
theorem dE:∀(n m d:Nat)(t:List Bytes),fL t (Vbavai.read n m d t)
 | 0,m,d,t=>by simp only[Vbavai.read];exact .err (KG _)
 | n+1,0,d,t=>by
  have ih:=dE n 1 d t;cases h:Vbavai.read n 1 d t with
  | error e=>rw[gv h];exact .err (ih.er e h)
  | ok p =>
   obtain⟨f,u⟩:=p;obtain⟨k,k1,k2,ek⟩:=ih.ok f u h;cases u with
   | nil=>rw[gj h];exact⟨fun _ _ q=>by cases q;exact⟨k,k1,k2,ek⟩,fun _ q=>by cases q⟩
   | cons w r =>
    have hr:r=t.drop (k+1):=by rw[←List.drop_drop,←ek];rfl
    have hk:k+1≤t.length:=by
     have:=congrArg List.length ek;rw[Kx,List.length_drop] at this;omega
    have two:∀mk:F->F,fL t (VM.mapR mk (Vbavai.read n 1 d r)):=fun mk=>by
     have i2:=(dE n 1 d r).mapR mk;rw[hr] at i2 ⊢;exact i2.drop hk
    by_cases h1:w=text "and"
    ·subst h1;rw[gi h];exact two _
    by_cases h2:w=text "or"
    ·subst h2;rw[gQ h];exact two _
    by_cases h3:w=text "AU"
    ·subst h3;rw[gO h];exact two _
    by_cases h4:w=text "EU"
    ·subst h4;cases r with
     | nil=>rw[dS h (fun _ _ q=>by cases q)];exact two _
     | cons kw r1 =>
      cases hu:upTo 12 kw with
      | none=>rw[dS h (fun _ _ q=>by cases q;exact hu)];exact two _
      | some m =>
       rw[gy h hu];have hr1:r1=t.drop (k+2):=by rw[show k+2=(k+1)+1 from rfl,←List.drop_drop,←hr];rfl
       have hk1:k+2≤t.length:=by
        have:=congrArg List.length hr;rw[Kx,List.length_drop] at this;omega
       have i2:=(dE n 1 d r1).mapR (F.within m f);rw[hr1] at i2 ⊢;exact i2.drop hk1
    rw[fD h h1 h2 h3 h4];exact⟨fun _ _ q=>by cases q;exact⟨k,k1,k2,ek⟩,fun _ q=>by cases q⟩
 | n+1,m+1,d,t=>by
  have hm:Vbavai.read (n+1) (m+1) d t=Vbavai.read (n+1) 1 d t:=by simp only[Vbavai.read,Nat.add_one_ne_zero,if_false]
  rw[hm];cases t with
  | nil=>rw[nG];exact .err (KZ _)
  | cons w r =>
   by_cases h1:w=text "true"
   ·subst h1;rw[km];exact .one
   by_cases h2:w=[40]
   ·subst h2;cases d with
    | zero=>rw[nP];exact .err (by simp)
    | succ d =>
     rw[ke];have ih:=dE n 0 d r;cases h:Vbavai.read n 0 d r with
     | error e=>exact .err (by have:=ih.er e h;rw[Kx];omega)
     | ok p =>
      obtain⟨f,u⟩:=p;obtain⟨k,k1,k2,ek⟩:=ih.ok f u h;cases u with
      | nil=>exact .err (KZ _)
      | cons v r1 =>
       show fL _ (if v=[41] then .ok (f,r1) else .error (v::r1).length);have hl:=congrArg List.length ek;rw[Kx,List.length_drop] at hl
       by_cases hv:v=[41]
       ·rw[if_pos hv];refine⟨fun _ _ q=>?_,fun _ q=>by cases q⟩
        cases q;refine⟨k+2,by omega,by rw[Kx];omega,?_⟩
        rw[show k+2=(k+1)+1 from rfl,List.drop_succ_cons,←List.drop_drop,←ek];rfl
       ·rw[if_neg hv];exact .err (by rw[Kx,Kx];omega)
   cases h3:oneOf w with
   | some mk =>
    cases d with
    | zero=>rw[nN n r h3];exact .err (by simp)
    | succ d=>rw[mW n d r h3];exact((dE n 1 d r).mapR mk).tail
   | none =>
    cases h4:markOf w with
    | none=>rw[iX n d r h1 h2 h3 h4];exact .err (by simp)
    | some i =>
     have e:Vbavai.read (n+1) 1 d (w::r)=.ok (.mark i,r):=by simp only[Vbavai.read,Nat.one_ne_zero,if_false,if_neg h1,if_neg h2,h3,h4]
     rw[e];exact .one
end VM
namespace Can
open PySem PySem.Spec PyProof.Rows L2 XL
variable{P:Program}{w:World}{K:Frag}{mg:Str->Option Value}{base:Heap}{C CG CF CT CR CY:Addr}
theorem JK{α:Type}{l:List α}(h:l.length=1):∃a,l=[a]:=List.length_eq_one_iff.mp h
theorem JI{α:Type}{l:List α}(h:l.length=2):∃a b,l=[a,b]:=by
 cases l with
 | nil=>cases h
 | cons a l=>obtain⟨b,rfl⟩:=JK (Nat.succ.inj h);exact⟨a,b,rfl⟩
theorem JA{α:Type}{l:List α}(h:l.length=3):∃a b c,l=[a,b,c]:=by
 cases l with
 | nil=>cases h
 | cons a l=>obtain⟨b,c,rfl⟩:=JI (Nat.succ.inj h);exact⟨a,b,c,rfl⟩
theorem Jf{α:Type}{l:List α}(h:l.length=4):∃a b c d,l=[a,b,c,d]:=by
 cases l with
 | nil=>cases h
 | cons a l=>obtain⟨b,c,d,rfl⟩:=JA (Nat.succ.inj h);exact⟨a,b,c,d,rfl⟩
theorem GS:0≤sizeLine:=by decide
theorem fM:1≤sizeLine:=by decide
theorem A6:2≤sizeLine:=by decide
theorem Kn:3≤sizeLine:=by decide
theorem dk{N P:List Str}{sc:Scope}(a:sc.kind=.function:=by rfl)(b:sc.isCoroutine=false:=by rfl)(c:sc.isGenerator=false:=by rfl)(d:N.Nodup:=by decide +kernel)(e:N.take P.length=P:=by rfl)(f:∀x∈P,sc.names.lookup x=some .local∨sc.names.lookup x=some .cell:=by decide +kernel)(g:∀y∈sc.names,y.2≠.free:=by decide +kernel):az N P sc:=⟨a,b,c,d,e,f,g⟩
def dt(i:Nat):Stmt:=PySem.Challenge.pw_cancome_s01_answers.main.body.getD i (.Pass ⟨0,0,0,0⟩)
abbrev nL:Stmt:=dt 1
theorem BH:az ["numbers"] ["numbers"] (ao nL):=dk
abbrev bR:Stmt:=dM (dt 4) 0
theorem jv:az ["self","kind","parts","bound","part"] ["self","kind","parts","bound"] (ao bR):=dk
abbrev jW:Stmt:=dt 5
theorem xh:az ["formula"] ["formula"] (ao jW):=dk
abbrev ot:Stmt:=dt 6
theorem AU:az ["inner"] ["inner"] (ao ot):=dk
abbrev jt:Stmt:=dt 7
theorem xr:az ["inner"] ["inner"] (ao jt):=dk
abbrev iF:Stmt:=dt 8
theorem uX:az ["inner"] ["inner"] (ao iF):=dk
abbrev kg:Stmt:=dt 9
theorem xn:az ["inner"] ["inner"] (ao kg):=dk
abbrev eJ:Stmt:=dt 10
theorem mH:az ["inner"] ["inner"] (ao eJ):=dk
abbrev dj:Stmt:=dt 11
theorem jn:az ["inner"] ["inner"] (ao dj):=dk
abbrev dX:Stmt:=dt 12
theorem lF:az ["inner"] ["inner"] (ao dX):=dk
abbrev eC:Stmt:=dt 13
theorem gE:az ["first","second","neither","broken"] ["first","second"] (ao eC):=dk
abbrev lJ:Stmt:=dt 15
theorem qe:az ["word","inner","build"] ["word","inner"] (ao lJ):=dk
abbrev rj:Stmt:=dt 16
theorem xE:az ["word","first","second","bound"] ["word","first","second","bound"] (ao rj):=dk
abbrev gZ:Stmt:=dt 19
theorem l7:az ["truth","node","here"] ["truth"] (ao gZ):=dk
abbrev ff:Stmt:=dt 20
theorem rO:az ["graph","formula","kind","first","second","marks","here"] ["graph","formula"] (ao ff):=dk
abbrev lX:Stmt:=dt 21
theorem yY:az ["marks","word"] ["marks","word"] (ao lX):=dk
abbrev zt:Stmt:=dt 22
theorem uS:az ["first","second","here","there"] ["first","second"] (ao zt):=dk
abbrev rP:Stmt:=dt 23
theorem mw:az ["first","second","here","there"] ["first","second"] (ao rP):=dk
abbrev qT:Stmt:=dt 24
theorem mK:az ["first","second","here","there"] ["first","second"] (ao qT):=dk
abbrev gu:Stmt:=dt 25
theorem k9:az ["graph","truth","ahead","node"] ["graph","truth"] (ao gu):=dk
abbrev uF:Stmt:=dt 26
theorem A3:az ["graph","first","second","bound","steps","reached","step"] ["graph","first","second","bound"] (ao uF):=dk
abbrev fK:Stmt:=dt 27
theorem pj:az ["graph","first","second","reached"] ["graph","first","second","reached"] (ao fK):=dk
abbrev lZ:Stmt:=dt 28
theorem qC:az ["graph","truth","kept","node"] ["graph","truth"] (ao lZ):=dk
abbrev iE:Stmt:=dt 32
theorem mJ:az ["table","sign"] [] (ao iE):=dk
abbrev m9:Stmt:=dt 33
theorem qk:az ["text","table","spaced","byte","word"] ["text"] (ao m9):=dk
abbrev bK:Stmt:=dM (dt 41) 0
theorem oj:az ["self","place"] ["self","place"] (ao bK):=dk
abbrev hU:Stmt:=dM (dt 42) 0
theorem sG:az ["self","words"] ["self","words"] (ao hU):=dk
abbrev gh:Stmt:=dM (dt 42) 1
theorem qE:az ["self"] ["self"] (ao gh):=dk
abbrev gU:Stmt:=dM (dt 42) 2
theorem sS:az ["self"] ["self"] (ao gU):=dk
abbrev iK:Stmt:=dt 43
theorem mS:az ["text","reader","formula"] ["text"] (ao iK):=dk
abbrev yn:Stmt:=dt 44
theorem Hy:az ["reader","word"] ["reader","word"] (ao yn):=dk
abbrev eF:Stmt:=dt 45
theorem jK:az ["reader","deep","first","joiner","bound","second"] ["reader","deep"] (ao eF):=dk
abbrev fz:Stmt:=dt 46
theorem gL:az ["reader","deep","word","opens","inner"] ["reader","deep"] (ao fz):=dk
abbrev iW:Stmt:=dt 47
theorem mP:az ["reader","word","bound"] ["reader"] (ao iW):=dk
abbrev m7:Stmt:=dM (dt 50) 0
theorem yU:az ["self","nodes","turn"] ["self","nodes","turn"] (ao m7):=dk
abbrev nX:Stmt:=dt 51
theorem AZ:az ["formula"] ["formula"] (ao nX):=dk
abbrev ju:Stmt:=dt 52
theorem oX:az ["graph","formula","node","first"] ["graph","formula","node"] (ao ju):=dk
abbrev iG:Stmt:=dt 53
theorem mU:az ["graph","truth","node","there"] ["graph","truth","node"] (ao iG):=dk
abbrev fY:Stmt:=dt 54
theorem jx:az ["graph","first","second","node","reached","nodes","truth"] ["graph","first","second","node"] (ao fY):=dk
abbrev gN:Stmt:=dt 55
theorem l6:az ["graph","truth","node","nodes","here"] ["graph","truth","node"] (ao gN):=dk
abbrev lV:Stmt:=dt 57
theorem qu:az ["formula","sign"] ["formula"] (ao lV):=dk
abbrev fG:Stmt:=dt 58
theorem je:az ["formula","first","joiner"] ["formula"] (ao fG):=dk
abbrev iT:Stmt:=dt 60
theorem nA:az ["graph","arguments","formula"] ["graph","arguments"] (ao iT):=dk
abbrev ja:Stmt:=dt 61
theorem mQ:az ["graph","arguments","node","formula","way"] ["graph","arguments"] (ao ja):=dk
abbrev kf:Stmt:=dt 62
theorem oC:az ["arguments","formula"] ["arguments"] (ao kf):=dk
abbrev k6:Stmt:=dt 63
theorem oF:az ["graph","arguments","first","second","wrong"] ["graph","arguments"] (ao k6):=dk
abbrev jD:Stmt:=dt 67
theorem wG:az ["graph","arguments"] ["graph","arguments"] (ao jD):=dk
abbrev jF:Stmt:=dt 68
theorem oK:az ["graph","arguments","start","end"] ["graph","arguments"] (ao jF):=dk
abbrev lG:Stmt:=dt 69
theorem qB:az ["graph","arguments","start","end","other"] ["graph","arguments"] (ao lG):=dk
abbrev jb:Stmt:=dt 70
theorem nD:az ["graph","arguments","node"] ["graph","arguments"] (ao jb):=dk
abbrev jY:Stmt:=dt 71
theorem oW:az ["graph","arguments","node"] ["graph","arguments"] (ao jY):=dk
abbrev jE:Stmt:=dt 73
theorem oG:az ["graph","rounds","node"] ["graph"] (ao jE):=dk
abbrev gm:Stmt:=dt 74
theorem sh:az ["graph"] ["graph"] (ao gm):=dk
abbrev vN:Stmt:=dt 75
theorem AH:az ["graph","classes","ahead","node"] ["graph","classes"] (ao vN):=dk
abbrev gC:Stmt:=dt 76
theorem ka:az ["graph","classes","node","there"] ["graph","classes","node"] (ao gC):=dk
abbrev fZ:Stmt:=dt 77
theorem iM:az ["signs","numbers","sign"] ["signs"] (ao fZ):=dk
abbrev fC:Stmt:=dt 78
theorem jk:az ["rounds","first","second","number","classes"] ["rounds","first","second"] (ao fC):=dk
abbrev i5:Stmt:=dM (dt 81) 0
theorem sj:az ["self","graph","rounds"] ["self","graph","rounds"] (ao i5):=dk
abbrev bM:Stmt:=dM (dt 81) 1
theorem dQ:az ["self","holding","failing","pair"] ["self","holding","failing"] (ao bM):=dk
abbrev cg:Stmt:=dM (dt 81) 2
theorem eL:az ["self","holding","failing","number","classes","alone"] ["self","holding","failing"] (ao cg):=dk
abbrev cf:Stmt:=dM (dt 81) 3
theorem eM:az ["self","node","others","formulas","whole","formula","other"] ["self","node","others"] (ao cf):=dk
abbrev i4:Stmt:=dt 82
theorem kW:az ["graph","classes","node","other","taken","there"] ["graph","classes","node","other"] (ao i4):=dk
abbrev lR:Stmt:=dt 83
theorem rT:az ["holding","failing","unlike","formula","word"] ["holding","failing"] (ao lR):=dk
abbrev gB:Stmt:=dt 86
theorem qU:az ["graph"] ["graph"] (ao gB):=dk
abbrev j4:Stmt:=dt 87
theorem mj:az ["graph","arguments","first","second","rounds","number","formula"] ["graph","arguments"] (ao j4):=dk
abbrev fB:Stmt:=dt 88
theorem jf:az ["graph","classes","least_nodes","answer","node"] ["graph"] (ao fB):=dk
abbrev iS:Stmt:=dM (dt 90) 0
theorem uT:az ["self"] ["self"] (ao iS):=dk
abbrev fe:Stmt:=dM (dt 90) 1
theorem oh:az ["self","node"] ["self","node"] (ao fe):=dk
abbrev dB:Stmt:=dM (dt 90) 2
theorem fA:az ["self","ahead"] ["self"] (ao dB):=dk
abbrev fc:Stmt:=dt 98
theorem tX:az ["calls","graph","told","number","arguments","answer"] ["calls"] (ao fc):=dk
abbrev gR:Stmt:=dt 99
theorem kY:az ["calls","pairs","place","number","arguments","kind","start"] ["calls"] (ao gR):=dk
abbrev jI:Stmt:=dt 100
theorem oH:az ["graph","number","arguments","wrong","kind","value"] ["graph","number","arguments"] (ao jI):=dk
abbrev vJ:Stmt:=dt 101
theorem FK:az ["graph","number","arguments"] ["graph","number","arguments"] (ao vJ):=dk
abbrev uU:Stmt:=dt 102
theorem Fy:az ["graph","number","arguments"] ["graph","number","arguments"] (ao uU):=dk
abbrev lY:Stmt:=dt 103
theorem rW:az ["kind","value","byte"] ["kind","value"] (ao lY):=dk
abbrev EF:XK:=fun _ _ _=>False
theorem ay{X:Cx}{P:Program}{w:World}{C:Addr}:dC (ic P w C) X EF:=by
 rintro pins σ H s e s' I ⟨x,dx,T,H',_,_,_,_,_,_,_,_,_,_,_,_,hE⟩;exact hE.elim
structure aK(K:Frag)(mg:Str->Option Value)(x:Str)(st:Stmt):Prop where
 ex:∃f fd,yd K x x st f fd∧mg x=some (.ref f)
structure aS(P:Program)(w:World)(K:Frag)(mg:Str->Option Value)(base:Heap)(C:Addr)(k:Nat)(x:Str)(ps:List Str)(sp:Sp):Prop where
 ex:∃f fd,dh P w K mg base (ic P w C) k f fd ps sp∧mg x=some (.ref f)∧keepIn K (.ref f)=true∧d7 K fd ps []
theorem Gn{x qual:Str}{st:Stmt}{f:Addr}{fd:FuncData}{N ps:List Str}{k:Nat}{sp:Sp}(F:yd K x qual st f fd)(S:az N ps (ao st))
 (hbody:∀(cdv:Value) (A:Around) (outer:List Env) (s:Shared) (H:Hp) (vs:List V) (Q:VK) (E:XK),cX k (A.deeper (envOfC qual (ao st) s.heap.objs.size f cdv))->sp vs H Q E →
   ∃t,yc (oy (ic P w C) P w K mg base N qual (ao st) f cdv A outer s H E) (cq st) t∧t {nx:=fun _ H'=>Q .non H',rt:=Q} (start N vs) H)
  (len:∀vs H Q E,sp vs H Q E->vs.length=ps.length:=by intro _ _ _ _ h;cases h;subst_vars;rfl):dh P w K mg base (ic P w C) (k+1) f fd ps sp:=by
 obtain⟨oc,od,kV,doc,pm,an,cdv,ct,osl,rfl,lk,hcd⟩:=F.ex;exact Gd lk hcd S len fun A outer s H vs Q E hr hsp=>hbody cdv A outer s H vs Q E hr hsp
theorem aK.cal{x:Str}{st:Stmt}{N ps:List Str}{k:Nat}{sp:Sp}(F:aK K mg x st)(S:az N ps (ao st))
 (hbody:∀(f:Addr) (cdv:Value) (A:Around) (outer:List Env) (s:Shared) (H:Hp) (vs:List V) (Q:VK) (E:XK),cX k (A.deeper (envOfC x (ao st) s.heap.objs.size f cdv))->sp vs H Q E →
   ∃t,yc (oy (ic P w C) P w K mg base N x (ao st) f cdv A outer s H E) (cq st) t∧t {nx:=fun _ H'=>Q .non H',rt:=Q} (start N vs) H)
  (len:∀vs H Q E,sp vs H Q E->vs.length=ps.length:=by intro _ _ _ _ h;cases h;subst_vars;rfl)
  (hb:∀(kV doc pm:Value) (an:Option Addr) (cdv ct:Value) (us:List Value),us.length=ps.length->bindArgs (fnOf x x (dN st) (cq st) (ao st) .none kV doc pm an cdv ct) ⟨us,[]⟩=pure (ps.zip us):=by intro _ _ _ _ _ _ us hl;first | (obtain⟨_,rfl⟩:=JK hl;rfl) | (obtain⟨_,_,rfl⟩:=JI hl;rfl) | (obtain⟨_,_,_,rfl⟩:=JA hl;rfl) | (obtain⟨_,_,_,_,rfl⟩:=Jf hl;rfl) | (obtain rfl:=List.eq_nil_of_length_eq_zero hl;rfl)):aS P w K mg base C (k+1) x ps sp:=by
 obtain⟨f,fd,F,hm⟩:=F.ex;exact⟨f,fd,Gn F S (fun cdv A outer s H vs Q E hr hsp=>hbody f cdv A outer s H vs Q E hr hsp) len,hm,F.kp,F.binds hb⟩
theorem aS.mono{k j:Nat}{x:Str}{ps:List Str}{sp:Sp}(c:aS P w K mg base C k x ps sp)(h:k≤j):aS P w K mg base C j x ps sp:=by
 obtain⟨f,fd,G,hm,kp,b⟩:=c.ex;exact⟨f,fd,G.mono h,hm,kp,b⟩
section
variable{X:Cx}{C:Addr}{k:Nat}{ps:List Str}{sp:Sp}{E:XK}{x:Str}{p pos:Pos}{e:Expr}{es:List Expr}{t:TA}
theorem aj(c:aS X.prog X.w X.K X.mg X.base C k x ps sp)(hr:cX k X.A)(hg:Gl X x)(hx:dC (ic X.prog X.w C) X E)(ha:PA X (e::es) t)(hdb:(x==("__debug__":Str))=false:=by decide)
  (he:starEach (e::es) X.env=(false,eval e X.env)::starEach es X.env:=by rfl)(hpl:(backTo pos (starEach es X.env)).any (·.1)=false:=by rfl):PE X (.Call (.Name x p) (e::es) [] pos) (jj sp [] E t):=by
 obtain⟨f,fd,G,hm,kp,b⟩:=c.ex;exact EG G hr hg hm kp b .nil hx ha hdb he hpl
theorem B0(c:aS X.prog X.w X.K X.mg X.base C k x ps sp)(hr:cX k X.A)(hg:Gl X x)(hx:dC (ic X.prog X.w C) X E)(hdb:(x==("__debug__":Str))=false:=by decide):PE X (.Call (.Name x p) [] [] pos) (jj sp [] E gP):=by
 obtain⟨f,fd,G,hm,kp,b⟩:=c.ex;exact D8 G hr hg hm kp b .nil hx hdb
end
theorem eU{H:Hp}:aD H H:=fun _ _ e=>e
theorem bh{H0 H:Hp}{D:Addr}{o:HO}(s:aD H0 H)(h:H0 D=none):aD H0 (upd H D o):=fun b u e=>by rw[ak (aq e h)];exact s b u e
theorem ah{H:Hp}{D:Addr}{o:HO}(h:H D=none):aD H (upd H D o):=bh eU h
theorem zA{K:Frag}{a b:Addr}{xs ys:List V}{g:TG}{tt:TT}{te:TE}{vs:List Nat}{σ:L2.St}{H1:Hp}{D:Addr}{Qd:Hp->Prop}(Pv:Nat->Hp->Prop)(h0:Pv 0 (upd H1 D (.lst [])))(hl:∀i H,Pv i H->aH K H a xs∧aH K H b ys)
  (hs:∀i x y H T,xs[i]?=some x->ys[i]?=some y->Pv i H->H T=none->g (.ref T) (bJ σ vs) (upd H T (.tup [x,y])) fun σ2 H2=>bJ σ2 vs=bJ σ vs∧tt σ2 H2 fun b H3 =>
   if b=true then te σ2 H3 fun y H4=>∃acc,H4 D=some (.lst acc)∧acc.length < sizeLine∧Pv (i+1) (upd H4 D (.lst (acc++[y]))) else Pv (i+1) H3)(hd:∀H,Pv (min xs.length ys.length) H->Qd H) :
  ∃W:Nat->Nat->Hp->Prop,(∃m,W 0 m (upd H1 D (.lst [])))∧∀i m H,W i m H →
   ((IS K a b).stop i H∧Qd H)∨((IS K a b).go i H∧∃Nx:Hp->Prop,(∀H',Nx H'->∃m',m' < m∧W (i+1) m' H')∧∀x H',(IS K a b).yld i H x H'->g x (bJ σ vs) H' fun σ2 H2=>bJ σ2 vs=bJ σ vs∧tt σ2 H2 fun b H3 =>
    if b=true then te σ2 H3 fun y H4=>∃acc,H4 D=some (.lst acc)∧acc.length < sizeLine∧Nx (upd H4 D (.lst (acc++[y]))) else Nx H3):=by
 refine⟨fun i m H=>m=min xs.length ys.length - i∧i≤min xs.length ys.length∧Pv i H,⟨_,rfl,KZ _,h0⟩,?_⟩;rintro i m H ⟨rfl,hi,p⟩;obtain⟨q1,q2⟩:=hl i H p
 by_cases hlt:i < min xs.length ys.length
 ·have l1:i < xs.length:=KU hlt (Nat.min_le_left ..);have l2:i < ys.length:=KU hlt (Nat.min_le_right ..);refine .inr ⟨⟨xs,ys,xs[i],ys[i],q1,q2,by simp[l1],by simp[l2]⟩,Pv (i+1),fun H' p'=>⟨_,by omega,rfl,hlt,p'⟩,fun x H' y=>?_⟩
  obtain⟨T,x,y,rfl,hT,rfl,hx,hy⟩:=y;exact hs i x y H T (hx xs q1) (hy ys q2) p hT
 ·have e:i=min xs.length ys.length:=by omega
  subst e;exact .inl ⟨⟨xs,ys,q1,q2,by omega⟩,hd H p⟩
theorem Fl{K:Frag}{a:Addr}{xs:List V}{g:TG}{tt:TT}{te:TE}{vs:List Nat}{σ:L2.St}{H1:Hp}{D:Addr}{Qd:Hp->Prop}(Pv:Nat->Hp->Prop)(h0:Pv 0 (upd H1 D (.lst [])))(hl:∀i H,Pv i H->aH K H a xs)
  (hs:∀i x H T,xs[i]?=some x->Pv i H->H T=none->g (.ref T) (bJ σ vs) (upd H T (.tup [.int (i:Nat),x])) fun σ2 H2=>bJ σ2 vs=bJ σ vs∧tt σ2 H2 fun b H3 =>
   if b=true then te σ2 H3 fun y H4=>∃acc,H4 D=some (.lst acc)∧acc.length < sizeLine∧Pv (i+1) (upd H4 D (.lst (acc++[y]))) else Pv (i+1) H3)(hd:∀H,Pv xs.length H->Qd H) :
  ∃W:Nat->Nat->Hp->Prop,(∃m,W 0 m (upd H1 D (.lst [])))∧∀i m H,W i m H →
   ((Gc K a).stop i H∧Qd H)∨((Gc K a).go i H∧∃Nx:Hp->Prop,(∀H',Nx H'->∃m',m' < m∧W (i+1) m' H')∧∀x H',(Gc K a).yld i H x H'->g x (bJ σ vs) H' fun σ2 H2=>bJ σ2 vs=bJ σ vs∧tt σ2 H2 fun b H3 =>
    if b=true then te σ2 H3 fun y H4=>∃acc,H4 D=some (.lst acc)∧acc.length < sizeLine∧Nx (upd H4 D (.lst (acc++[y]))) else Nx H3):=by
 refine⟨fun i m H=>m=xs.length - i∧i≤xs.length∧Pv i H,⟨_,rfl,KZ _,h0⟩,?_⟩;rintro i m H ⟨rfl,hi,p⟩;have q1:=hl i H p
 by_cases hlt:i < xs.length
 ·refine .inr ⟨⟨xs,xs[i],q1,by simp[hlt]⟩,Pv (i+1),fun H' p'=>⟨_,by omega,rfl,hlt,p'⟩,fun x H' y=>?_⟩
  obtain⟨T,x,rfl,hT,rfl,hx⟩:=y;exact hs i x H T (hx xs q1) p hT
 ·have e:i=xs.length:=by omega
  subst e;exact .inl ⟨⟨xs,q1,KG _⟩,hd H p⟩
theorem bS{α:Type}{l:List α}{i:Nat}{x:α}(h:l[i]?=some x):l.take (i+1)=l.take i++[x]:=by
 rw[List.take_succ,h];rfl
theorem br{n:Nat}(h:n < 1000000):n < sizeLine:=by rw[sizeLine_eq];omega
structure j3(mg:Str->Option Value):Prop where
 zip:mg "zip"=none
 enumerate:mg "enumerate"=none
 any:mg "any"=none
 all:mg "all"=none
 len:mg "len"=none
 range:mg "range"=none
 sorted:mg "sorted"=none
 sum:mg "sum"=none
 dict:mg "dict"=none
 ord:mg "ord"=none
 int:mg "int"=none
 min:mg "min"=none
 set:mg "set"=none
 tuple:mg "tuple"=none
 list:mg "list"=none
 str:mg "str"=none
 reversed:mg "reversed"=none
theorem bD{H H4:Hp}{D:Addr}{zs:List V}{i:Nat}{v:V}(hD:H D=none)(p1:H4 D=some (.lst (zs.take i)))(p2:aD H H4)(hz:zs[i]?=some v)(hl:zs.length≤100000) :
  ∃acc,H4 D=some (.lst acc)∧acc.length < sizeLine∧(upd H4 D (.lst (acc++[v]))) D=some (.lst (zs.take (i+1)))∧aD H (upd H4 D (.lst (acc++[v]))) :=
 ⟨_,p1,br (by rw[L9];omega),by rw[a9,bS hz],bh p2 hD⟩
theorem bj{H':Hp}{D Tp:Addr}{o:HO}{u:HO}(hT:H' Tp=none)(p:H' D=some u):upd H' Tp o D=some u:=by rw[ak (aq p hT)];exact p
theorem fw{H H':Hp}{Tp:Addr}{o:HO}(hT:H' Tp=none)(p:aD H H'):aD H (upd H' Tp o):=bh p (p.free hT)
abbrev mf(H:Hp)(a:Addr)(x:List Bool):Prop:=H a=some (.lst (x.map V.bl))
inductive eZ(op:List Bool->List Bool->List Bool)(vs:List V)(H:Hp)(Q:VK)(z3_:XK):Prop
 | mk (a b:Addr) (x y:List Bool):vs=[.ref a,.ref b]->mf H a x->mf H b y->x.length≤12->(∀(H':Hp)(p:Addr),mf H' p (op x y)->aD H H'->Q (.ref p) H')->eZ op vs H Q z3_
theorem uC{x y:List Bool}{i:Nat}{a b:Bool}{f:Bool->Bool->Bool}(hx:x[i]?=some a)(hy:y[i]?=some b):(((x.zip y).map fun p=>f p.1 p.2).map V.bl)[i]?=some (.bl (f a b)):=by
 rw[Kw,Kw,show(x.zip y)[i]?=some (a,b) from List.getElem?_zip_eq_some.mpr ⟨hx,hy⟩];rfl
theorem F2(F:aK K mg "both" zt)(T:j3 mg):aS P w K mg base C 1 "both" ["first","second"] (eZ VM.jN):=by
 refine F.cal uS fun f cdv A outer s H vs Q E hr h=>?_;obtain⟨a,b,x,y,rfl,ha,hb,hl,k⟩:=h
 refine⟨_,ai (aw (du (own:=[("here",2),("there",3)]) (g:=zO K 2 (jg (eI 2) (jg (eI 3) Bp))) rfl uS.nd (zI rfl T.zip (a8 (pv 0) (a8 (pv 1) aa))) (ba rfl)
  (fun _ _ _ _ _=>m5 rfl (cu (aO (i:=2) uS.nd rfl (Or.inl rfl)) (cu (aO (i:=3) uS.nd rfl (Or.inl rfl)) iP))) (fun _ _ _ _ _=>bP) (fun _ _ _ _ _=>DG (pv 2) (rM (pv 3))))),?_⟩
 refine⟨_,rfl,_,rfl,a,b,_,_,rfl,aH.of ha,aH.of hb,fun D hD=>?_⟩;have hlen:((VM.jN x y).map V.bl).length≤100000:=by unfold VM.jN;rw[Kv,Kv,List.length_zip];omega
 refine zA (xs:=x.map V.bl) (ys:=y.map V.bl) (fun i H'=>H' D=some (.lst (((VM.jN x y).map V.bl).take i))∧aD H H') ⟨a9,ah hD⟩ (fun i H' p=>⟨aH.of (p.2 _ _ ha),aH.of (p.2 _ _ hb)⟩) ?_ ?_
 ·rintro i vx vy H' Tp hx hy ⟨p1,p2⟩ hT;rw[Kw] at hx hy;obtain⟨cx,hcx,rfl⟩:=KF.mp hx;obtain⟨cy,hcy,rfl⟩:=KF.mp hy;refine⟨Tp,_,rfl,eB.of a9,rfl,_,_,rfl,_,_,rfl,rfl,rfl,?_⟩;have fin:=bD (v:=.bl (cx&&cy)) hD (bj (o:=.tup [.bl cx,.bl cy]) hT p1) (fw hT p2) (uC (f:=and) hcx hcy) hlen;refine⟨_,rfl,cx,rfl,?_⟩;cases cx with
  | true=>exact⟨_,rfl,fin⟩
  | false=>exact fin
 ·rintro H' ⟨p1,p2⟩;refine k H' D ?_ p2;rw[KS (by rw[Kv,Kv];unfold VM.jN;rw[Kv,Kv,List.length_zip];omega)] at p1
  exact p1
theorem BX(F:aK K mg "either" rP)(T:j3 mg):aS P w K mg base C 1 "either" ["first","second"] (eZ VM.eD):=by
 refine F.cal mw fun f cdv A outer s H vs Q E hr h=>?_;obtain⟨a,b,x,y,rfl,ha,hb,hl,k⟩:=h
 refine⟨_,ai (aw (du (own:=[("here",2),("there",3)]) (g:=zO K 2 (jg (eI 2) (jg (eI 3) Bp))) rfl mw.nd (zI rfl T.zip (a8 (pv 0) (a8 (pv 1) aa))) (ba rfl)
  (fun _ _ _ _ _=>m5 rfl (cu (aO (i:=2) mw.nd rfl (Or.inl rfl)) (cu (aO (i:=3) mw.nd rfl (Or.inl rfl)) iP))) (fun _ _ _ _ _=>bP) (fun _ _ _ _ _=>Ci (pv 2) (rM (pv 3))))),?_⟩
 refine⟨_,rfl,_,rfl,a,b,_,_,rfl,aH.of ha,aH.of hb,fun D hD=>?_⟩;have hlen:((VM.eD x y).map V.bl).length≤100000:=by unfold VM.eD;rw[Kv,Kv,List.length_zip];omega
 refine zA (xs:=x.map V.bl) (ys:=y.map V.bl) (fun i H'=>H' D=some (.lst (((VM.eD x y).map V.bl).take i))∧aD H H') ⟨a9,ah hD⟩ (fun i H' p=>⟨aH.of (p.2 _ _ ha),aH.of (p.2 _ _ hb)⟩) ?_ ?_
 ·rintro i vx vy H' Tp hx hy ⟨p1,p2⟩ hT;rw[Kw] at hx hy;obtain⟨cx,hcx,rfl⟩:=KF.mp hx;obtain⟨cy,hcy,rfl⟩:=KF.mp hy;refine⟨Tp,_,rfl,eB.of a9,rfl,_,_,rfl,_,_,rfl,rfl,rfl,?_⟩;have fin:=bD (v:=.bl (cx||cy)) hD (bj (o:=.tup [.bl cx,.bl cy]) hT p1) (fw hT p2) (uC (f:=or) hcx hcy) hlen
  refine⟨_,rfl,cx,rfl,?_⟩;cases cx with
  | true=>exact fin
  | false=>exact⟨_,rfl,fin⟩
 ·rintro H' ⟨p1,p2⟩;refine k H' D ?_ p2;rw[KS (by rw[Kv,Kv];unfold VM.eD;rw[Kv,Kv,List.length_zip];omega)] at p1
  exact p1
theorem B1(F:aK K mg "unlike" qT)(T:j3 mg):aS P w K mg base C 1 "unlike" ["first","second"] (eZ VM.fF):=by
 refine F.cal mK fun f cdv A outer s H vs Q E hr h=>?_;obtain⟨a,b,x,y,rfl,ha,hb,hl,k⟩:=h
 refine⟨_,ai (aw (du (own:=[("here",2),("there",3)]) (g:=zO K 2 (jg (eI 2) (jg (eI 3) Bp))) rfl mK.nd (zI rfl T.zip (a8 (pv 0) (a8 (pv 1) aa))) (ba rfl)
  (fun _ _ _ _ _=>m5 rfl (cu (aO (i:=2) mK.nd rfl (Or.inl rfl)) (cu (aO (i:=3) mK.nd rfl (Or.inl rfl)) iP))) (fun _ _ _ _ _=>bP) (fun _ _ _ _ _=>eE qI (pv 2) (pv 3) (aR _)))),?_⟩
 refine⟨_,rfl,_,rfl,a,b,_,_,rfl,aH.of ha,aH.of hb,fun D hD=>?_⟩;have hlen:((VM.fF x y).map V.bl).length≤100000:=by unfold VM.fF;rw[Kv,Kv,List.length_zip];omega
 refine zA (xs:=x.map V.bl) (ys:=y.map V.bl) (fun i H'=>H' D=some (.lst (((VM.fF x y).map V.bl).take i))∧aD H H') ⟨a9,ah hD⟩ (fun i H' p=>⟨aH.of (p.2 _ _ ha),aH.of (p.2 _ _ hb)⟩) ?_ ?_
 ·rintro i vx vy H' Tp hx hy ⟨p1,p2⟩ hT;rw[Kw] at hx hy;obtain⟨cx,hcx,rfl⟩:=KF.mp hx;obtain⟨cy,hcy,rfl⟩:=KF.mp hy;refine⟨Tp,_,rfl,eB.of a9,rfl,_,_,rfl,_,_,rfl,rfl,rfl,?_⟩;have fin:=bD (v:=.bl (!decide (V.bl cx=V.bl cy))) hD (bj (o:=.tup [.bl cx,.bl cy]) hT p1) (fw hT p2) (by rw[show(!decide (V.bl cx=V.bl cy))=(cx != cy) from by cases cx<;>cases cy<;>rfl];exact uC (f:=bne) hcx hcy) hlen
  exact⟨_,rfl,_,rfl,rfl,fin⟩
 ·rintro H' ⟨p1,p2⟩;refine k H' D ?_ p2;rw[KS (by rw[Kv,Kv];unfold VM.fF;rw[Kv,Kv,List.length_zip];omega)] at p1
  exact p1
abbrev Gr:=Vbavai.Graph
abbrev nat(n:Nat):V:=V.int (n:Int)
def K2(lm ln:Addr):List (Str×V):=[("marks",.ref lm),("nexts",.ref ln)]
structure nH(CG:Addr)(H:Hp)(a lm ln:Addr)(g:Gr):Prop where
 obj:∃dx,H a=some (.ins CG dx (K2 lm ln))
 marks:H lm=some (.lst (g.map fun n=>nat n.marks))
 nexts:∃ns:List Addr,ns.length=g.length∧H ln=some (.lst (ns.map V.ref))∧∀(i:Nat)(l:Addr)(nd:Vbavai.Node),ns[i]?=some l->g[i]?=some nd->H l=some (.lst (nd.next.map nat))
theorem nH.same{CG:Addr}{H H':Hp}{a lm ln:Addr}{g:Gr}(G:nH CG H a lm ln g)(s:aD H H'):nH CG H' a lm ln g:=by
 obtain⟨⟨dx,h1⟩,h2,ns,h3,h4,h5⟩:=G;exact⟨⟨dx,s _ _ h1⟩,s _ _ h2,ns,h3,s _ _ h4,fun i l nd e1 e2=>s _ _ (h5 i l nd e1 e2)⟩
structure il(g:Gr):Prop where
 len:g.length≤12
 mks:∀nd∈g,nd.marks≤15
 nx:∀nd∈g,∀j∈nd.next,j < g.length
 out:∀nd∈g,nd.next.length≤4
 ord:∀nd∈g,nd.next.Pairwise (· < ·)
structure gw(K:Frag)(CG:Addr):Prop where
 cl:wN K CG
 nm:cQ K CG "marks"
 nn:cQ K CG "nexts"
inductive Bm(CG:Addr)(vs:List V)(H:Hp)(Q:VK)(z3_:XK):Prop
 | mk (a t lm ln:Addr) (g:Gr) (x:List Bool):vs=[.ref a,.ref t]->nH CG H a lm ln g->il g->mf H t x->x.length=g.length->(∀(H':Hp)(p:Addr),mf H' p (VM.C8 g x)->aD H H'->Q (.ref p) H')->Bm CG vs H Q z3_
theorem vQ{x:List Bool}{j:Nat}(h:j < x.length):yb (x.map V.bl) (j:Int)=some (.bl (Vbavai.mem x j)):=Dx rfl (by rw[Kw,VM.kx h];rfl)
theorem pB(F:aK K mg "at_some_next" gu)(T:j3 mg)(TG:gw K CG):aS P w K mg base C 1 "at_some_next" ["graph","truth"] (Bm CG):=by
 refine F.cal k9 fun f cdv A outer s H vs Q E hr h=>?_;obtain⟨a,t,lm,ln,g,x,rfl,G,GO,ht,hl,k⟩:=h;have nd:=k9.nd
 refine⟨_,ai (aw (du (own:=[("ahead",2)]) (te:=Jb (HE K) (bZ (ID (Gs K (bL 2)) (eI 3) Ir (zj (uB K) (bL 1) (bL 3)) [3]) gP)) rfl nd (bF (aG (pv 0) rfl)) (ba rfl)
  (fun _ _ _ _ _=>aO (i:=2) nd rfl (Or.inl rfl)) (fun _ _ _ _ _=>bP)
  (fun _ _ _ _ _=>aQ (Cr rfl) rfl T.any boot_any (a8 (du (own:=[("node",3)]) rfl nd (bF (pv 2)) (ba rfl) (fun _ _ _ _ _=>aO (i:=3) nd rfl (Or.inl rfl)) (fun _ _ _ _ _=>bP) (fun _ _ _ _ _=>aY aF (pv 1) (pv 3) (fun _ _=>rfl))) aa)))),?_⟩
 obtain⟨⟨dx,hobj⟩,hm,ns,hns,hn,hnx⟩:=id G;refine⟨_,rfl,a,CG,dx,_,_,rfl,hobj,TG.cl,TG.nn,rfl,ln,rfl,⟨_,aH.of hn⟩,fun D hD=>?_⟩;have hz:((VM.C8 g x).map V.bl).length≤100000:=by rw[Kv,VM.dU];have:=GO.len;omega
 refine cj (K:=K) (a:=ln) (xs:=ns.map V.ref) (fun i H'=>H' D=some (.lst (((VM.C8 g x).map V.bl).take i))∧aD H H') ⟨a9,ah hD⟩ (fun i H' _ p=>aH.of (p.2 _ _ hn)) ?_ ?_
 ·rintro i v H' hv ⟨p1,p2⟩;rw[Kw] at hv;obtain⟨l,hli,rfl⟩:=KF.mp hv;have hi:i < g.length:=by rw[←hns];exact(KQ.mp hli).1
  have hg:=VM.aT hi;have hL:=p2 _ _ (hnx i l _ hli hg);have hlt:∀j∈(nodeAt g i).next,j < x.length:=fun j hj=>by rw[hl];exact GO.nx _ (KA hg) j hj
  have hlen:(nodeAt g i).next.length≤4:=GO.out _ (KA hg);refine⟨rfl,_,rfl,l,rfl,⟨_,aH.of hL⟩,fun D2 hD2=>?_⟩;refine cj (K:=K) (a:=l) (xs:=(nodeAt g i).next.map nat) (fun j H2=>H2 D2=some (.lst ((((nodeAt g i).next.map (Vbavai.mem x)).map V.bl).take j))∧aD H' H2) ⟨a9,ah hD2⟩ (fun j H2 _ p=>aH.of (p.2 _ _ hL)) ?_ ?_
  ·rintro j v2 H2 hv2 ⟨q1,q2⟩;rw[Kw] at hv2;obtain⟨m,hmj,rfl⟩:=KF.mp hv2;have hm1:=hlt m (KA hmj);refine⟨rfl,_,rfl,_,rfl,t,_,_,_,rfl,rfl,aH.of (q2 _ _ (p2 _ _ ht)),vQ hm1,?_⟩;exact bD hD2 q1 q2 (by rw[Kw,Kw,hmj];rfl) (by rw[Kv,Kv];omega)
  ·rintro H2 ⟨q1,q2⟩;rw[KS (by rw[Kv,Kv,Kv];exact KG _)] at q1
   refine⟨D2,_,rfl,aH.of q1,?_⟩;refine bD hD (q2 _ _ p1) (p2.trans q2) ?_ hz;unfold VM.C8;rw[Kw,Kw,hg,List.any_map];rfl
 ·rintro H' ⟨p1,p2⟩;refine k H' D ?_ p2;rw[KS (by rw[Kv,Kv,VM.dU];omega)] at p1
  exact p1
inductive uH(CG:Addr)(vs:List V)(H:Hp)(Q:VK)(z3_:XK):Prop
 | mk (a f s lm ln:Addr) (g:Gr) (x y:List Bool) (bv:V) (n:Nat):vs=[.ref a,.ref f,.ref s,bv]->nH CG H a lm ln g->il g->mf H f x->mf H s y->x.length=g.length->y.length=g.length->((bv=.non∧n=g.length)∨(bv=nat n∧n≤12))->(∀(H':Hp)(p:Addr),mf H' p (Vbavai.times (Vbavai.grow g x y) n y)->aD H H'->Q (.ref p) H')->uH CG vs H Q z3_
inductive zi(CG:Addr)(vs:List V)(H:Hp)(Q:VK)(z3_:XK):Prop
 | mk (a t lm ln:Addr) (g:Gr) (x:List Bool):vs=[.ref a,.ref t]->nH CG H a lm ln g->il g->mf H t x->x.length=g.length->(∀(H':Hp)(p:Addr),mf H' p (Vbavai.times (Vbavai.shrink g) g.length x)->aD H H'->Q (.ref p) H')->zi CG vs H Q z3_
inductive rS(CG:Addr)(vs:List V)(H:Hp)(Q:VK)(z3_:XK):Prop
 | mk (a f s r lm ln:Addr) (g:Gr) (x y z:List Bool):vs=[.ref a,.ref f,.ref s,.ref r]->nH CG H a lm ln g->il g->mf H f x->mf H s y->mf H r z->x.length=g.length->y.length=g.length->z.length=g.length->(∀(H':Hp)(p:Addr),mf H' p (Vbavai.grow g x y z)->aD H H'->Q (.ref p) H')->rS CG vs H Q z3_
theorem nM(F:aK K mg "one_step_more" fK)(cE:aS P w K mg base C 1 "either" ["first","second"] (eZ VM.eD))(cB:aS P w K mg base C 1 "both" ["first","second"] (eZ VM.jN))
  (cA:aS P w K mg base C 1 "at_some_next" ["graph","truth"] (Bm CG)):aS P w K mg base C 2 "one_step_more" ["graph","first","second","reached"] (rS CG):=by
 refine F.cal pj fun f cdv A outer s H vs Q E hr h=>?_;obtain⟨a,fa,sa,r,lm,ln,g,x,y,z,rfl,G,GO,hx,hy,hz,lx,ly,lz,k⟩:=h;have g12:=GO.len;refine⟨_,ai (aw (aj cE hr rfl ay (a8 (pv 2) (a8 (aj cB hr rfl ay (a8 (pv 1) (a8 (aj cA hr rfl ay (a8 (pv 0) (a8 (pv 3) aa))) aa))) aa)))),?_⟩;refine⟨_,rfl,_,rfl,_,rfl,_,rfl,a,r,lm,ln,g,_,rfl,G,GO,hz,lz,fun H1 p1 b1 t1=>?_⟩;refine⟨fa,p1,x,_,rfl,t1 _ _ hx,b1,by omega,fun H2 p2 b2 t2=>?_⟩
 refine⟨sa,p2,y,_,rfl,t2 _ _ (t1 _ _ hy),b2,by omega,fun H3 p3 b3 t3=>k H3 p3 ?_ (t1.trans (t2.trans t3))⟩
 rw[VM.Fz lx ly];exact b3
theorem Cz(F:aK K mg "until" uF)(T:j3 mg)(TG:gw K CG)(cO:aS P w K mg base C 2 "one_step_more" ["graph","first","second","reached"] (rS CG)):aS P w K mg base C 3 "until" ["graph","first","second","bound"] (uH CG):=by
 refine F.cal A3 fun f cdv A outer s H vs Q E hr h=>?_;obtain⟨a,fa,sa,lm,ln,g,x,y,bv,n,rfl,G,GO,hx,hy,lx,ly,hb,k⟩:=h;have nd:=A3.nd
 refine⟨_,ae (aE (i:=4) nd rfl (Or.inl rfl) (DB (qY (GM (pv 3))) (aQ aU rfl T.len boot_len (a8 (aG (pv 0) rfl) aa)) (pv 3)))
  (ae (aE (i:=5) nd rfl (Or.inl rfl) (pv 2))
  (ae (gq PassesOwn.leaving rfl (ip rfl T.range (a8 (pv 4) aa)) (aO (i:=6) nd rfl (Or.inl rfl))
   (ai (aE (i:=5) nd rfl (Or.inl rfl) (aj cO hr rfl ay (a8 (pv 0) (a8 (pv 1) (a8 (pv 2) (a8 (pv 5) aa))))))))
  (ai (aw (pv 5))))),?_⟩
 obtain⟨⟨dx,hobj⟩,hm,ns,hns,hn,hnx⟩:=id G;have n12:n≤12:=by rcases hb with ⟨_,e⟩ | ⟨_,e⟩<;>have:=GO.len<;>omega
 refine⟨_,rfl,_,rfl,?_⟩
 have turn:∀(bv4:V)(i:Nat)(σ:L2.St)(H':Hp)(Nx:L2.St->Hp->Prop),(∃(r:Addr)(v6:Option V),σ=[some (.ref a),some (.ref fa),some (.ref sa),some bv,some bv4,some (.ref r),v6]∧aD H H'∧mf H' r (Vbavai.times (Vbavai.grow g x y) i y)) →
   (∀σ2 H2,(∃(r:Addr)(v6:Option V),σ2=[some (.ref a),some (.ref fa),some (.ref sa),some bv,some bv4,some (.ref r),v6]∧aD H H2∧mf H2 r (Vbavai.times (Vbavai.grow g x y) (i+1) y))->Nx σ2 H2) →
   eI 6 (.int (0+i)) σ H' fun σ2 H2=>BZ (jj (rS CG) [] EF (bZ (bL 0) (bZ (bL 1) (bZ (bL 2) (bZ (bL 5) gP))))) (eI 5)
    {nx:=Nx,rt:=Q} σ2 H2:=by
  rintro bv4 i σ H' Nx ⟨r,v6,rfl,s1,hr'⟩ kk;have l1:(Vbavai.times (Vbavai.grow g x y) i y).length=g.length:=VM.dH (fun _=>VM.bA ..) ly i;have g12:=GO.len;refine⟨_,rfl,_,rfl,_,rfl,_,rfl,a,fa,sa,r,lm,ln,g,x,y,_,rfl,G.same s1,GO,s1 _ _ hx,s1 _ _ hy,hr',lx,ly,l1,fun H3 p3 b3 t3=>kk _ _ ⟨p3,_,rfl,s1.trans t3,?_⟩⟩;rw[VM.bI];exact b3
 rcases hb with ⟨rfl,rfl⟩ | ⟨rfl,_⟩
 ·refine⟨_,rfl,a,CG,dx,_,_,rfl,hobj,TG.cl,TG.nm,rfl,_,_,rfl,.inl (aH.of hm),_,rfl,_,rfl,_,rfl,by omega,by rw[Kv];omega,?_⟩
  rw[Kv];refine kL (n:=g.length) (fun i σ H'=>∃(r:Addr)(v6:Option V),σ=[some (.ref a),some (.ref fa),some (.ref sa),some .non,some (.int (g.length:Int)),some (.ref r),v6]∧aD H H'∧mf H' r (Vbavai.times (Vbavai.grow g x y) i y)) ⟨sa,none,rfl,eU,hy⟩ ?_ ?_
  ·intro i σ H' _ p;exact turn _ i σ H' _ p fun _ _ q=>q
  ·rintro σ H' ⟨r,v6,rfl,s1,b1⟩;exact⟨_,rfl,k H' r b1 s1⟩
 ·refine⟨_,rfl,_,rfl,_,rfl,_,rfl,by omega,by omega,?_⟩
  rw[Lk];refine kL (n:=n) (fun i σ H'=>∃(r:Addr)(v6:Option V),σ=[some (.ref a),some (.ref fa),some (.ref sa),some (nat n),some (nat n),some (.ref r),v6]∧aD H H'∧mf H' r (Vbavai.times (Vbavai.grow g x y) i y)) ⟨sa,none,rfl,eU,hy⟩ ?_ ?_
  ·intro i σ H' _ p;exact turn _ i σ H' _ p fun _ _ q=>q
  ·rintro σ H' ⟨r,v6,rfl,s1,b1⟩;exact⟨_,rfl,k H' r b1 s1⟩
theorem wZ(F:aK K mg "for_ever" lZ)(T:j3 mg)(TG:gw K CG)(cB:aS P w K mg base C 1 "both" ["first","second"] (eZ VM.jN))
  (cA:aS P w K mg base C 1 "at_some_next" ["graph","truth"] (Bm CG)):aS P w K mg base C 2 "for_ever" ["graph","truth"] (zi CG):=by
 refine F.cal qC fun f cdv A outer s H vs Q E hr h=>?_;obtain⟨a,ta,lm,ln,g,x,rfl,G,GO,hx,lx,k⟩:=h;have nd:=qC.nd
 refine⟨_,ae (aE (i:=2) nd rfl (Or.inl rfl) (pv 1))
  (ae (gq PassesOwn.leaving rfl (ip rfl T.range (a8 (aQ aU rfl T.len boot_len (a8 (aG (pv 0) rfl) aa)) aa)) (aO (i:=3) nd rfl (Or.inl rfl))
   (ai (aE (i:=2) nd rfl (Or.inl rfl) (aj cB hr rfl ay (a8 (pv 1) (a8 (aj cA hr rfl ay (a8 (pv 0) (a8 (pv 2) aa))) aa))))))
  (ai (aw (pv 2)))),?_⟩
 obtain⟨⟨dx,hobj⟩,hm,ns,hns,hn,hnx⟩:=id G;have g12:=GO.len;refine⟨_,rfl,_,rfl,a,CG,dx,_,_,rfl,hobj,TG.cl,TG.nm,rfl,_,_,rfl,.inl (aH.of hm),_,rfl,by omega,by rw[Kv];omega,?_⟩
 rw[Lk,Kv];refine kL (n:=g.length) (fun i σ H'=>∃(r:Addr)(v3:Option V),σ=[some (.ref a),some (.ref ta),some (.ref r),v3]∧aD H H'∧mf H' r (Vbavai.times (VM.lK g x) i x)) ⟨ta,none,rfl,eU,hx⟩ ?_ ?_
 ·rintro i σ H' _ ⟨r,v3,rfl,s1,hr'⟩;have l1:(Vbavai.times (VM.lK g x) i x).length=g.length:=VM.dH (fun z=>VM.jQ lx (VM.dU g z)) lx i;refine⟨_,rfl,_,rfl,_,rfl,a,r,lm,ln,g,_,rfl,G.same s1,GO,hr',l1,fun H1 p1 b1 t1=>?_⟩;refine⟨ta,p1,x,_,rfl,t1 _ _ (s1 _ _ hx),b1,by omega,fun H2 p2 b2 t2=>?_⟩
  refine⟨p2,_,rfl,(s1.trans t1).trans t2,?_⟩;rw[VM.bI];exact b2
 ·rintro σ H' ⟨r,v3,rfl,s1,b1⟩;rw[VM.uw lx] at b1;exact⟨_,rfl,k H' r b1 s1⟩
structure lr(K:Frag)(mg:Str->Option Value)(w:World)(D:Str)(d:Addr)(es:Array DictEntry):Prop where
 mg:mg D=some (.ref d)
 lk:∃n,K.lookup d=some ⟨.type "dict",none,.dict es n,#[]⟩
 kl:PySem.W.KeysLit w.params es.toList
 lo:(d==sysModules)=false
inductive D0(es:Array DictEntry)(Q:VK)(y:V)(H1:Hp):Prop
 | mk (x:_):y=.str x->Q (.bl (findBy Value.isStrOf es x).isSome) H1->D0 es Q y H1
def IV(es:Array DictEntry)(ty:TE):TE:=fun σ H Q=>ty σ H fun y H1=>D0 es Q y H1
inductive AE(es:Array DictEntry)(Q:VK)(y:V)(H1:Hp):Prop
 | mk (x u v:_):y=.str x->findBy Value.isStrOf es x=some u->bg v u->Q v H1->AE es Q y H1
def zw(es:Array DictEntry)(ty:TE):TE:=fun σ H Q=>ty σ H fun y H1=>AE es Q y H1
section
variable{X:Cx}{D:Str}{d:Addr}{es:Array DictEntry}{i:Expr}{ty:TE}{p pos:Pos}
theorem EX(M:lr X.K X.mg X.w D d es)(hg:Gl X D)(hi:PE X i ty)(hdb:(D==("__debug__":Str))=false:=by decide):PC X .In i (.Name D p) (IV es ty):=by
 intro pins s σ H Q I h;refine bE (hi pins s σ H _ I h) fun iv s1 ⟨y,H1,I1,ry,x,ey,q1⟩=>bE (bo (v:=.ref d) hg M.mg rfl hdb pins s1 σ H1 (fun v H2=>v=.ref d∧H2=H1) I1 ⟨rfl,rfl⟩) fun u s2 ⟨z,H2,I2,rx,ez,eH⟩=>?_;subst ey ez eH;obtain rfl:u=Value.ref d:=rx;obtain⟨t,rfl⟩:=(show ∃t,iv=Value.str x t from ry)
 obtain⟨n,lk⟩:=M.lk;exact wpAny_in_of (strKind_is X.prog X.w x t) M.lo (PySem.W.mapOf_K (prog:=X.prog) I2.kIn lk M.kl) ⟨.bl _,H2,I2.tok _,rfl,q1⟩
theorem rY(M:lr X.K X.mg X.w D d es)(hg:Gl X D)(hi:PE X i ty)(hs:Dd i)(hdb:(D==("__debug__":Str))=false:=by decide):PE X (.Subscript (.Name D p) i pos) (zw es ty):=by
 intro pins s σ H Q I h
 refine pZ PySem.F.slot_dict_getitem.lookup hs (bE (bo (v:=.ref d) hg M.mg rfl hdb pins s σ H (fun v H2=>v=.ref d∧zw es ty σ H2 Q) I ⟨rfl,h⟩) fun u s1 ⟨z,H1,I1,rx,ez,q1⟩ =>
  bE (hi pins s1 σ H1 _ I1 q1) fun iv s2 ⟨y,H2,I2,ry,x,u2,v,ey,hf,rv,q2⟩=>?_)
 subst ey ez;obtain rfl:u=Value.ref d:=rx;obtain⟨t,rfl⟩:=(show ∃t,iv=Value.str x t from ry)
 obtain⟨n,lk⟩:=M.lk;have hm:=PySem.W.mapOf_K (prog:=X.prog) I2.kIn lk M.kl;exact⟨hm.typeIs,wpAny_getItem_of (strKind_is X.prog X.w x t) hm hf ⟨v,H2,I2.tok _,rv,q2⟩⟩
end
abbrev Fm:=Vbavai.F
def JT(k:Str)(l:Addr)(bv:V)(n:Nat):List (Str×V):=[("kind",.str k),("parts",.ref l),("bound",bv),("size",nat n)]
inductive da(CF:Addr)(H:Hp)(p:Addr)(k:Str)(qs:List Addr)(bv:V)(n:Nat):Prop
 | mk (dx l:_):H p=some (.ins CF dx (JT k l bv n))->H l=some (.lst (qs.map V.ref))->da CF H p k qs bv n
def fQ(i:Nat):Str:=⟨#[109,48+i]⟩
def bx(CF:Addr)(H:Hp):Fm->Addr->Prop
 | .tru,p=>da CF H p "true" [] .non 1
 | .mark i,p=>i < 4∧da CF H p (fQ i) [] .non 1
 | .not f,p=>∃q,da CF H p "not" [q] .non (Vbavai.size (.not f))∧bx CF H f q
 | .and f g,p=>∃q r,da CF H p "and" [q,r] .non (Vbavai.size (.and f g))∧bx CF H f q∧bx CF H g r
 | .or f g,p=>∃q r,da CF H p "or" [q,r] .non (Vbavai.size (.or f g))∧bx CF H f q∧bx CF H g r
 | .next f,p=>∃q,da CF H p "EX" [q] .non (Vbavai.size (.next f))∧bx CF H f q
 | .until_ f g,p=>∃q r,da CF H p "EU" [q,r] .non (Vbavai.size (.until_ f g))∧bx CF H f q∧bx CF H g r
 | .within k f g,p=>k≤12∧∃q r,da CF H p "EU" [q,r] (nat k) (Vbavai.size (.within k f g))∧bx CF H f q∧bx CF H g r
 | .ever f,p=>∃q,da CF H p "EG" [q] .non (Vbavai.size (.ever f))∧bx CF H f q
theorem da.same{CF:Addr}{H H':Hp}{p:Addr}{k:Str}{qs:List Addr}{bv:V}{n:Nat}(h:da CF H p k qs bv n)(s:aD H H'):da CF H' p k qs bv n:=by
 obtain⟨dx,l,h1,h2⟩:=h;exact⟨dx,l,s _ _ h1,s _ _ h2⟩
theorem bx.same{CF:Addr}{H H':Hp}(s:aD H H'):∀{f:Fm}{p:Addr},bx CF H f p->bx CF H' f p
 | .tru,_,h=>da.same h s
 | .mark _,_,h=>⟨h.1,da.same h.2 s⟩
 | .not _,_,⟨q,h,a⟩=>⟨q,h.same s,bx.same s a⟩
 | .and _ _,_,⟨q,r,h,a,b⟩=>⟨q,r,h.same s,bx.same s a,bx.same s b⟩
 | .or _ _,_,⟨q,r,h,a,b⟩=>⟨q,r,h.same s,bx.same s a,bx.same s b⟩
 | .next _,_,⟨q,h,a⟩=>⟨q,h.same s,bx.same s a⟩
 | .until_ _ _,_,⟨q,r,h,a,b⟩=>⟨q,r,h.same s,bx.same s a,bx.same s b⟩
 | .within _ _ _,_,⟨k,q,r,h,a,b⟩=>⟨k,q,r,h.same s,bx.same s a,bx.same s b⟩
 | .ever _,_,⟨q,h,a⟩=>⟨q,h.same s,bx.same s a⟩
structure zq(K:Frag)(CF:Addr):Prop where
 cl:wN K CF
 nk:cQ K CF "kind"
 np:cQ K CF "parts"
 nb:cQ K CF "bound"
 ns:cQ K CF "size"
structure Fj(es:Array DictEntry):Prop where
 at_:∀i,i < 4->∃t,findBy Value.isStrOf es (fQ i)=some (.int ((2 ^ i:Nat):Int) t)
 no:∀k∈(["true","not","EX","EG","and","or","EU"]:List Str),findBy Value.isStrOf es k=none
theorem DS:∀m:Nat,m < 16->∀i:Nat,i < 4->(!decide (V.int (Builtin.bitAnd (m:Int) ((2 ^ i:Nat):Int))=V.int 0))=m.testBit i:=by decide +kernel
inductive kr(CG CF:Addr)(h:Nat)(vs:List V)(H:Hp)(Q:VK)(z3_:XK):Prop
 | mk (a p lm ln:Addr) (g:Gr) (f:Fm):vs=[.ref a,.ref p]->nH CG H a lm ln g->il g->bx CF H f p->Vbavai.size f≤h->(∀(H':Hp)(t:Addr),mf H' t (Vbavai.sat g f)->aD H H'->Q (.ref t) H')->kr CG CF h vs H Q z3_
theorem Fx:∀i:Nat,i < 4->decide (V.str (fQ i)=V.str "true")=false:=by decide +kernel
theorem xF:∀f:Fm,1≤Vbavai.size f:=fun f=>by cases f<;>simp[Vbavai.size]<;>omega
theorem bC{c:Bool}{A B:Prop}(h:c=false)(b:B):if c=true then A else B:=by rw[h];exact zR b
theorem gz{c:Bool}{A B:Prop}(h:c=true)(a:A):if c=true then A else B:=by rw[h];exact zx a
inductive qP(vs:List V)(H:Hp)(Q:VK)(z3_:XK):Prop
 | mk (m i:Nat):vs=[nat m,.str (fQ i)]->m < 16->i < 4->Q (.bl (m.testBit i)) H->qP vs H Q z3_
theorem xN(F:aK K mg "has_mark" lX){dmv:Addr}{es:Array DictEntry}(M:lr K mg w "MARK_VALUES" dmv es)(MV:Fj es):aS P w K mg base C 1 "has_mark" ["marks","word"] qP:=by
 refine F.cal yY fun f cdv A outer s H vs Q E hr hsp=>?_;obtain⟨m,i,rfl,hm,hi,k⟩:=hsp;obtain⟨tk,hfind⟩:=MV.at_ i hi;refine⟨_,ai (aw (eE qI (dD Gx (pv 0) (rY M rfl (pv 1) (fun _ _=>rfl))) aA (aR _))),?_⟩;refine⟨_,rfl,_,rfl,_,_,V.int ((2 ^ i:Nat):Int),rfl,hfind,⟨tk,rfl⟩,_,_,rfl,rfl,rfl,?_⟩;rw[DS m hm i hi];exact k
theorem wx(F:aK K mg "truth_of" ff)(T:j3 mg)(TG:gw K CG)(TF:zq K CF){dmv:Addr}{es:Array DictEntry}(M:lr K mg w "MARK_VALUES" dmv es)(MV:Fj es)
  (cE:aS P w K mg base C 1 "either" ["first","second"] (eZ VM.eD))(cB:aS P w K mg base C 1 "both" ["first","second"] (eZ VM.jN))
  (cH:aS P w K mg base C 1 "has_mark" ["marks","word"] qP)(cA:aS P w K mg base C 1 "at_some_next" ["graph","truth"] (Bm CG))(cU:aS P w K mg base C 3 "until" ["graph","first","second","bound"] (uH CG))(cV:aS P w K mg base C 2 "for_ever" ["graph","truth"] (zi CG)) :
  ∀h:Nat,aS P w K mg base C (h+4) "truth_of" ["graph","formula"] (kr CG CF h):=by
 intro h
 induction h with
 | zero =>
  obtain⟨f,fd,Ff,hm⟩:=F.ex;refine⟨f,fd,⟨fun vs H Q E h=>?_,fun A outer s H args us vs Q E _ _ _ _ h=>?_⟩,hm,Ff.kp,Ff.binds fun _ _ _ _ _ _ us hl=>match us,hl with | [_,_],_=>rfl⟩
  ·obtain⟨_,_,_,_,_,_,rfl,_⟩:=h;rfl
  ·obtain⟨_,_,_,_,_,f,_,_,_,_,hs,_⟩:=h;have:=xF f;omega
 | succ h ih =>
  refine F.cal rO fun f cdv A outer s H vs Q E hr hsp=>?_;obtain⟨a,p,lm,ln,g,fm,rfl,G,GO,hf,hsz,k⟩:=hsp;have nd:=rO.nd;have hr1:cX 1 (A.deeper (envOfC "truth_of" (ao ff) s.heap.objs.size f cdv)):=hr.mono (by omega)
  have hr3:cX 3 (A.deeper (envOfC "truth_of" (ao ff) s.heap.objs.size f cdv)):=hr.mono (by omega)
  have hr2:cX 2 (A.deeper (envOfC "truth_of" (ao ff) s.heap.objs.size f cdv)):=hr.mono (by omega)
  refine⟨_,ae (aE (i:=2) nd rfl (Or.inr rfl) (aG (pv 1) rfl))
   (ae (aV (aI bV (pv 2) bf (aR _)) (ai (aw (du (own:=[("marks",5)]) rfl nd (bF (aG (pv 0) rfl)) (ba rfl) (fun _ _ _ _ _=>aO (i:=5) nd rfl (Or.inl rfl)) (fun _ _ _ _ _=>bP) (fun _ _ _ _ _=>Ja)))) aB)
   (ae (aV (qY (EX M rfl (pv 2))) (ai (aw (du (own:=[("marks",5)]) rfl nd (bF (aG (pv 0) rfl)) (ba rfl) (fun _ _ _ _ _=>aO (i:=5) nd rfl (Or.inl rfl)) (fun _ _ _ _ _=>bP) (fun _ _ _ _ _=>aj cH hr1 rfl ay (a8 (pv 5) (a8 (pv 2) aa)))))) aB)
   (ae (aE (i:=3) nd rfl (Or.inl rfl) (aj ih hr rfl ay (a8 (pv 0) (a8 (aY aF (aG (pv 1) rfl) aA (fun _ _=>rfl)) aa))))
   (ae (aV (aI bV (pv 2) bf (aR _)) (ai (aw (du (own:=[("here",6)]) rfl nd (bF (pv 3)) (ba rfl) (fun _ _ _ _ _=>aO (i:=6) nd rfl (Or.inl rfl)) (fun _ _ _ _ _=>bP) (fun _ _ _ _ _=>Hl (pv 6))))) aB)
   (ae (aV (aI bV (pv 2) bf (aR _)) (ai (aw (aj cA hr1 rfl ay (a8 (pv 0) (a8 (pv 3) aa))))) aB)
   (ae (aV (aI bV (pv 2) bf (aR _)) (ai (aw (aj cV hr2 rfl ay (a8 (pv 0) (a8 (pv 3) aa))))) aB)
   (ae (aE (i:=4) nd rfl (Or.inl rfl) (aj ih hr rfl ay (a8 (pv 0) (a8 (aY aF (aG (pv 1) rfl) aA (fun _ _=>rfl)) aa))))
   (ae (aV (aI bV (pv 2) bf (aR _)) (ai (aw (aj cB hr1 rfl ay (a8 (pv 3) (a8 (pv 4) aa))))) aB)
   (ae (aV (aI bV (pv 2) bf (aR _)) (ai (aw (aj cE hr1 rfl ay (a8 (pv 3) (a8 (pv 4) aa))))) aB)
   (ai (aw (aj cU hr3 rfl ay (a8 (pv 0) (a8 (pv 3) (a8 (pv 4) (a8 (aG (pv 1) rfl) aa)))))))))))))))),?_⟩
  have g12:=GO.len;cases fm with
  | tru =>
   obtain⟨dx,l,hp,hl⟩:=hf;obtain⟨⟨dg,hobj⟩,hm,_⟩:=id G;refine⟨_,rfl,p,CF,dx,_,_,rfl,hp,TF.cl,TF.nk,rfl,?_⟩;refine⟨_,rfl,rfl,_,rfl,gz (by decide) ?_⟩
   refine⟨_,rfl,a,CG,dg,_,_,rfl,hobj,TG.cl,TG.nm,rfl,lm,rfl,⟨_,aH.of hm⟩,fun D hD=>?_⟩;refine cj (K:=K) (a:=lm) (xs:=g.map fun n=>nat n.marks) (fun i H'=>H' D=some (.lst (((g.map fun _=>true).map V.bl).take i))∧aD H H') ⟨a9,ah hD⟩ (fun i H' _ p=>aH.of (p.2 _ _ hm)) ?_ ?_
   ·rintro i v H' hv ⟨p1,p2⟩;rw[Kw] at hv;obtain⟨n,hn,rfl⟩:=KF.mp hv;exact⟨rfl,bD hD p1 p2 (by rw[Kw,Kw,hn];rfl) (by rw[Kv,Kv];omega)⟩
   ·rintro H' ⟨p1,p2⟩;refine k H' D ?_ p2;rw[Kv,KS (by rw[Kv,Kv];exact KG _)] at p1
    rw[show Vbavai.sat g .tru=g.map fun _=>true from VM.yx g]
    exact p1
  | mark i =>
   obtain⟨hi,dx,l,hp,hl⟩:=hf;obtain⟨⟨dg,hobj⟩,hm,_⟩:=id G;obtain⟨tk,hfind⟩:=MV.at_ i hi;refine⟨_,rfl,p,CF,dx,_,_,rfl,hp,TF.cl,TF.nk,rfl,?_⟩;refine⟨_,rfl,rfl,_,rfl,bC (Fx i hi) ?_⟩;refine⟨_,rfl,_,rfl,_,rfl,gz (by rw[hfind];rfl) ?_⟩
   refine⟨_,rfl,a,CG,dg,_,_,rfl,hobj,TG.cl,TG.nm,rfl,lm,rfl,⟨_,aH.of hm⟩,fun D hD=>?_⟩;refine cj (K:=K) (a:=lm) (xs:=g.map fun n=>nat n.marks) (fun j H'=>H' D=some (.lst (((g.map fun n=>n.marks.testBit i).map V.bl).take j))∧aD H H') ⟨a9,ah hD⟩ (fun i H' _ p=>aH.of (p.2 _ _ hm)) ?_ ?_
   ·rintro j v H' hv ⟨p1,p2⟩;rw[Kw] at hv;obtain⟨n,hn,rfl⟩:=KF.mp hv;have n16:n.marks < 16:=Nat.lt_succ_of_le (GO.mks n (KA hn));refine⟨rfl,_,rfl,_,rfl,n.marks,i,rfl,n16,hi,?_⟩;refine bD hD p1 p2 ?_ (by rw[Kv,Kv];omega)
    rw[Kw,Kw,hn];rfl
   ·rintro H' ⟨p1,p2⟩;refine k H' D ?_ p2;rw[Kv,KS (by rw[Kv,Kv];exact KG _)] at p1
    rw[show Vbavai.sat g (.mark i)=g.map fun n=>n.marks.testBit i from VM.yL g i]
    exact p1
  | not f1 =>
   obtain⟨q,⟨dx,l,hp,hl⟩,h1⟩:=hf;refine⟨_,rfl,p,CF,dx,_,_,rfl,hp,TF.cl,TF.nk,rfl,?_⟩;refine⟨_,rfl,rfl,_,rfl,bC (by decide) ?_⟩
   refine⟨_,rfl,_,rfl,_,rfl,bC (by rw[MV.no _ (by decide)];rfl) ?_⟩
   refine⟨_,rfl,_,rfl,p,CF,dx,_,_,rfl,hp,TF.cl,TF.np,rfl,l,_,_,_,rfl,rfl,aH.of hl,rfl,a,q,lm,ln,g,f1,rfl,G,GO,h1,by simp only[Vbavai.size] at hsz;omega,fun H1 t1 b1 s1=>?_⟩
   refine⟨_,rfl,rfl,_,rfl,gz (by decide) ?_⟩
   refine⟨_,rfl,t1,rfl,⟨_,aH.of b1⟩,fun D hD=>?_⟩;have lf:=VM.bc g f1;refine cj (K:=K) (a:=t1) (xs:=(Vbavai.sat g f1).map V.bl) (fun j H'=>H' D=some (.lst ((((Vbavai.sat g f1).map (!·)).map V.bl).take j))∧aD H1 H') ⟨a9,ah hD⟩ (fun i H' _ p=>aH.of (p.2 _ _ b1)) ?_ ?_
   ·rintro j v H' hv ⟨p1,p2⟩;rw[Kw] at hv;obtain⟨c,hc,rfl⟩:=KF.mp hv;refine⟨rfl,_,rfl,c,rfl,?_⟩;exact bD hD p1 p2 (by rw[Kw,Kw,hc];rfl) (by rw[Kv,Kv];omega)
   ·rintro H' ⟨p1,p2⟩;refine k H' D ?_ (s1.trans p2);rw[Kv,KS (by rw[Kv,Kv];exact KG _)] at p1
    rw[show Vbavai.sat g (.not f1)=(Vbavai.sat g f1).map (!·) from VM.Bv lf]
    exact p1
  | next f1 =>
   obtain⟨q,⟨dx,l,hp,hl⟩,h1⟩:=hf;refine⟨_,rfl,p,CF,dx,_,_,rfl,hp,TF.cl,TF.nk,rfl,?_⟩;refine⟨_,rfl,rfl,_,rfl,bC (by decide) ?_⟩
   refine⟨_,rfl,_,rfl,_,rfl,bC (by rw[MV.no _ (by decide)];rfl) ?_⟩
   refine⟨_,rfl,_,rfl,p,CF,dx,_,_,rfl,hp,TF.cl,TF.np,rfl,l,_,_,_,rfl,rfl,aH.of hl,rfl,a,q,lm,ln,g,f1,rfl,G,GO,h1,by simp only[Vbavai.size] at hsz;omega,fun H1 t1 b1 s1=>?_⟩
   refine⟨_,rfl,rfl,_,rfl,bC (by decide) ?_⟩
   refine⟨_,rfl,rfl,_,rfl,gz (by decide) ?_⟩
   refine⟨_,rfl,_,rfl,a,t1,lm,ln,g,_,rfl,G.same s1,GO,b1,VM.bc g f1,fun H2 t2 b2 s2=>k H2 t2 ?_ (s1.trans s2)⟩;rw[show Vbavai.sat g (.next f1)=VM.C8 g (Vbavai.sat g f1) from VM.CH g _]
   exact b2
  | ever f1 =>
   obtain⟨q,⟨dx,l,hp,hl⟩,h1⟩:=hf;refine⟨_,rfl,p,CF,dx,_,_,rfl,hp,TF.cl,TF.nk,rfl,?_⟩;refine⟨_,rfl,rfl,_,rfl,bC (by decide) ?_⟩
   refine⟨_,rfl,_,rfl,_,rfl,bC (by rw[MV.no _ (by decide)];rfl) ?_⟩
   refine⟨_,rfl,_,rfl,p,CF,dx,_,_,rfl,hp,TF.cl,TF.np,rfl,l,_,_,_,rfl,rfl,aH.of hl,rfl,a,q,lm,ln,g,f1,rfl,G,GO,h1,by simp only[Vbavai.size] at hsz;omega,fun H1 t1 b1 s1=>?_⟩
   refine⟨_,rfl,rfl,_,rfl,bC (by decide) ?_⟩
   refine⟨_,rfl,rfl,_,rfl,bC (by decide) ?_⟩
   refine⟨_,rfl,rfl,_,rfl,gz (by decide) ?_⟩
   exact⟨_,rfl,_,rfl,a,t1,lm,ln,g,_,rfl,G.same s1,GO,b1,VM.bc g f1,fun H2 t2 b2 s2=>k H2 t2 b2 (s1.trans s2)⟩
  | and f1 f2 =>
   obtain⟨q,r,⟨dx,l,hp,hl⟩,h1,h2⟩:=hf;refine⟨_,rfl,p,CF,dx,_,_,rfl,hp,TF.cl,TF.nk,rfl,?_⟩;refine⟨_,rfl,rfl,_,rfl,bC (by decide) ?_⟩
   refine⟨_,rfl,_,rfl,_,rfl,bC (by rw[MV.no _ (by decide)];rfl) ?_⟩
   refine⟨_,rfl,_,rfl,p,CF,dx,_,_,rfl,hp,TF.cl,TF.np,rfl,l,_,_,_,rfl,rfl,aH.of hl,rfl,a,q,lm,ln,g,f1,rfl,G,GO,h1,by simp only[Vbavai.size] at hsz;omega,fun H1 t1 b1 s1=>?_⟩
   refine⟨_,rfl,rfl,_,rfl,bC (by decide) ?_⟩
   refine⟨_,rfl,rfl,_,rfl,bC (by decide) ?_⟩
   refine⟨_,rfl,rfl,_,rfl,bC (by decide) ?_⟩
   refine⟨_,rfl,_,rfl,p,CF,dx,_,_,rfl,s1 _ _ hp,TF.cl,TF.np,rfl,l,_,_,_,rfl,rfl,aH.of (s1 _ _ hl),rfl,a,r,lm,ln,g,f2,rfl,G.same s1,GO,h2.same s1,by simp only[Vbavai.size] at hsz;omega,fun H2 t2 b2 s2=>?_⟩
   refine⟨_,rfl,rfl,_,rfl,gz (by decide) ?_⟩
   refine⟨_,rfl,_,rfl,t1,t2,_,_,rfl,s2 _ _ b1,b2,by rw[VM.bc];omega,fun H3 t3 b3 s3=>k H3 t3 ?_ ((s1.trans s2).trans s3)⟩
   rw[show Vbavai.sat g (.and f1 f2)=VM.jN (Vbavai.sat g f1) (Vbavai.sat g f2) from VM.nV (VM.bc g f1) (VM.bc g f2)]
   exact b3
  | or f1 f2 =>
   obtain⟨q,r,⟨dx,l,hp,hl⟩,h1,h2⟩:=hf;refine⟨_,rfl,p,CF,dx,_,_,rfl,hp,TF.cl,TF.nk,rfl,?_⟩;refine⟨_,rfl,rfl,_,rfl,bC (by decide) ?_⟩
   refine⟨_,rfl,_,rfl,_,rfl,bC (by rw[MV.no _ (by decide)];rfl) ?_⟩
   refine⟨_,rfl,_,rfl,p,CF,dx,_,_,rfl,hp,TF.cl,TF.np,rfl,l,_,_,_,rfl,rfl,aH.of hl,rfl,a,q,lm,ln,g,f1,rfl,G,GO,h1,by simp only[Vbavai.size] at hsz;omega,fun H1 t1 b1 s1=>?_⟩
   refine⟨_,rfl,rfl,_,rfl,bC (by decide) ?_⟩
   refine⟨_,rfl,rfl,_,rfl,bC (by decide) ?_⟩
   refine⟨_,rfl,rfl,_,rfl,bC (by decide) ?_⟩
   refine⟨_,rfl,_,rfl,p,CF,dx,_,_,rfl,s1 _ _ hp,TF.cl,TF.np,rfl,l,_,_,_,rfl,rfl,aH.of (s1 _ _ hl),rfl,a,r,lm,ln,g,f2,rfl,G.same s1,GO,h2.same s1,by simp only[Vbavai.size] at hsz;omega,fun H2 t2 b2 s2=>?_⟩
   refine⟨_,rfl,rfl,_,rfl,bC (by decide) ?_⟩
   refine⟨_,rfl,rfl,_,rfl,gz (by decide) ?_⟩
   refine⟨_,rfl,_,rfl,t1,t2,_,_,rfl,s2 _ _ b1,b2,by rw[VM.bc];omega,fun H3 t3 b3 s3=>k H3 t3 ?_ ((s1.trans s2).trans s3)⟩
   rw[show Vbavai.sat g (.or f1 f2)=VM.eD (Vbavai.sat g f1) (Vbavai.sat g f2) from VM.Ea (VM.bc g f1) (VM.bc g f2)]
   exact b3
  | until_ f1 f2 =>
   obtain⟨q,r,⟨dx,l,hp,hl⟩,h1,h2⟩:=hf;refine⟨_,rfl,p,CF,dx,_,_,rfl,hp,TF.cl,TF.nk,rfl,?_⟩;refine⟨_,rfl,rfl,_,rfl,bC (by decide) ?_⟩
   refine⟨_,rfl,_,rfl,_,rfl,bC (by rw[MV.no _ (by decide)];rfl) ?_⟩
   refine⟨_,rfl,_,rfl,p,CF,dx,_,_,rfl,hp,TF.cl,TF.np,rfl,l,_,_,_,rfl,rfl,aH.of hl,rfl,a,q,lm,ln,g,f1,rfl,G,GO,h1,by simp only[Vbavai.size] at hsz;omega,fun H1 t1 b1 s1=>?_⟩
   refine⟨_,rfl,rfl,_,rfl,bC (by decide) ?_⟩
   refine⟨_,rfl,rfl,_,rfl,bC (by decide) ?_⟩
   refine⟨_,rfl,rfl,_,rfl,bC (by decide) ?_⟩
   refine⟨_,rfl,_,rfl,p,CF,dx,_,_,rfl,s1 _ _ hp,TF.cl,TF.np,rfl,l,_,_,_,rfl,rfl,aH.of (s1 _ _ hl),rfl,a,r,lm,ln,g,f2,rfl,G.same s1,GO,h2.same s1,by simp only[Vbavai.size] at hsz;omega,fun H2 t2 b2 s2=>?_⟩
   refine⟨_,rfl,rfl,_,rfl,bC (by decide) ?_⟩
   refine⟨_,rfl,rfl,_,rfl,bC (by decide) ?_⟩
   exact⟨_,rfl,_,rfl,_,rfl,_,rfl,p,CF,dx,_,_,rfl,s2 _ _ (s1 _ _ hp),TF.cl,TF.nb,rfl,a,t1,t2,lm,ln,g,_,_,_,g.length,rfl,G.same (s1.trans s2),GO,s2 _ _ b1,b2,VM.bc g f1,VM.bc g f2,.inl ⟨rfl,rfl⟩,fun H3 t3 b3 s3=>k H3 t3 b3 ((s1.trans s2).trans s3)⟩
  | within n f1 f2 =>
   obtain⟨n12,q,r,⟨dx,l,hp,hl⟩,h1,h2⟩:=hf;refine⟨_,rfl,p,CF,dx,_,_,rfl,hp,TF.cl,TF.nk,rfl,?_⟩;refine⟨_,rfl,rfl,_,rfl,bC (by decide) ?_⟩
   refine⟨_,rfl,_,rfl,_,rfl,bC (by rw[MV.no _ (by decide)];rfl) ?_⟩
   refine⟨_,rfl,_,rfl,p,CF,dx,_,_,rfl,hp,TF.cl,TF.np,rfl,l,_,_,_,rfl,rfl,aH.of hl,rfl,a,q,lm,ln,g,f1,rfl,G,GO,h1,by simp only[Vbavai.size] at hsz;omega,fun H1 t1 b1 s1=>?_⟩
   refine⟨_,rfl,rfl,_,rfl,bC (by decide) ?_⟩
   refine⟨_,rfl,rfl,_,rfl,bC (by decide) ?_⟩
   refine⟨_,rfl,rfl,_,rfl,bC (by decide) ?_⟩
   refine⟨_,rfl,_,rfl,p,CF,dx,_,_,rfl,s1 _ _ hp,TF.cl,TF.np,rfl,l,_,_,_,rfl,rfl,aH.of (s1 _ _ hl),rfl,a,r,lm,ln,g,f2,rfl,G.same s1,GO,h2.same s1,by simp only[Vbavai.size] at hsz;omega,fun H2 t2 b2 s2=>?_⟩
   refine⟨_,rfl,rfl,_,rfl,bC (by decide) ?_⟩
   refine⟨_,rfl,rfl,_,rfl,bC (by decide) ?_⟩
   exact⟨_,rfl,_,rfl,_,rfl,_,rfl,p,CF,dx,_,_,rfl,s2 _ _ (s1 _ _ hp),TF.cl,TF.nb,rfl,a,t1,t2,lm,ln,g,_,_,_,n,rfl,G.same (s1.trans s2),GO,s2 _ _ b1,b2,VM.bc g f1,VM.bc g f2,.inr ⟨rfl,n12⟩,fun H3 t3 b3 s3=>k H3 t3 b3 ((s1.trans s2).trans s3)⟩
inductive mD(vs:List V)(H:Hp)(Q:VK)(z3_:XK):Prop
 | mk (t:Addr) (x:List Bool):vs=[.ref t]->mf H t x->x.length≤12->(∀(H':Hp)(p:Addr),H' p=some (.lst (((List.range x.length).filter (Vbavai.mem x)).map nat))->aD H H'->Q (.ref p) H')->mD vs H Q z3_
theorem gG(p:Nat->Bool)(i:Nat):(List.range (i+1)).filter p=(List.range i).filter p++(if p i=true then [i] else []):=by
 rw[List.range_succ,LM,LK,LL]
theorem qL(F:aK K mg "nodes_where" gZ)(T:j3 mg):aS P w K mg base C 1 "nodes_where" ["truth"] mD:=by
 refine F.cal l7 fun f cdv A outer s H vs Q E hr hsp=>?_;obtain⟨t1,x,rfl,b1,hl,k⟩:=hsp;have nd:=l7.nd
 refine⟨_,ai (aw (du (own:=[("node",1),("here",2)]) (g:=zO K 2 (jg (eI 1) (jg (eI 2) Bp))) rfl nd (AQ rfl T.enumerate (a8 (pv 0) aa)) (ba rfl)
  (fun _ _ _ _ _=>m5 rfl (cu (aO (i:=1) nd rfl (Or.inl rfl)) (cu (aO (i:=2) nd rfl (Or.inl rfl)) iP))) (fun _ _ _ _ _=>iN (bQ (pv 2))) (fun _ _ _ _ _=>pv 1))),?_⟩
 refine⟨_,rfl,t1,_,rfl,aH.of b1,fun D hD=>?_⟩;refine Fl (K:=K) (a:=t1) (xs:=x.map V.bl) (fun i H'=>H' D=some (.lst (((List.range i).filter (Vbavai.mem x)).map nat))∧aD H H') ⟨a9,ah hD⟩ (fun i H' p=>aH.of (p.2 _ _ b1)) ?_ ?_
 ·rintro i v H' Tp hv ⟨p1,p2⟩ hT;rw[Kw] at hv;obtain⟨c,hc,rfl⟩:=KF.mp hv;have hi:i < x.length:=(KQ.mp hc).1;have ec:Vbavai.mem x i=c:=LS ((VM.kx hi).symm.trans hc);refine⟨Tp,_,rfl,eB.of a9,rfl,_,_,rfl,_,_,rfl,rfl,rfl,_,rfl,c,rfl,?_⟩;cases c with
  | true =>
   refine⟨_,rfl,_,bj hT p1,?_,?_,bh (fw hT p2) hD⟩
   ·rw[Kv];refine br (LI (Lg ..) ?_);rw[La];omega
   ·rw[a9,gG,ec,if_pos rfl,KO];rfl
  | false =>
   refine⟨?_,fw hT p2⟩;rw[gG,ec,if_neg KM,Lp];exact bj hT p1
 ·rintro H' ⟨p1,p2⟩;refine k H' D ?_ p2;rw[Kv] at p1;exact p1
structure B8(K:Frag)(x qual:Str)(st:Stmt)(f:Addr)(fd:FuncData)(ds:Array Value):Prop where
 ex:∃(oc:Value)(od:Option Addr)(kV doc pm:Value)(an:Option Addr)(cdv ct:Value)(osl:Array (Option Value))(Td:Addr)(oT:Obj)(n:Nat),
  fd=fnOf x qual (dN st) (cq st) (ao st) (.ref Td) kV doc pm an cdv ct∧K.lookup f=some ⟨oc,od,.func fd,osl⟩∧codeIn K cdv qual=true∧K.lookup Td=some oT∧oT.data=.seq ds n
theorem Kt{x qual:Str}{st:Stmt}{f:Addr}{fd:FuncData}{ds:Array Value}{N ps:List Str}{k:Nat}{sp:Sp}(F:B8 K x qual st f fd ds)(S:az N ps (ao st))
 (hbody:∀(cdv:Value) (A:Around) (outer:List Env) (s:Shared) (H:Hp) (vs:List V) (Q:VK) (E:XK),cX k (A.deeper (envOfC qual (ao st) s.heap.objs.size f cdv))->sp vs H Q E →
   ∃t,yc (oy (ic P w C) P w K mg base N qual (ao st) f cdv A outer s H E) (cq st) t∧t {nx:=fun _ H'=>Q .non H',rt:=Q} (start N vs) H)
  (len:∀vs H Q E,sp vs H Q E->vs.length=ps.length:=by intro _ _ _ _ h;cases h;subst_vars;rfl):dh P w K mg base (ic P w C) (k+1) f fd ps sp:=by
 obtain⟨oc,od,kV,doc,pm,an,cdv,ct,osl,Td,oT,n,rfl,lk,hcd,_⟩:=F.ex;exact Gd lk hcd S len fun A outer s H vs Q E hr hsp=>hbody cdv A outer s H vs Q E hr hsp
theorem xU:∀ns:List Nat,(ns.map fun(n:Nat)=>(n:Int)).sum=(ns.sum:Int)
 | []=>rfl
 | a::r=>by rw[KR,List.sum_cons,List.sum_cons,xU r,Int.natCast_add]
inductive sC(CF:Addr)(H:Hp)(q:Addr)(n:Nat):Prop
 | mk (dx k l bv:_):H q=some (.ins CF dx (JT k l bv n))->sC CF H q n
theorem bx.sz{CF:Addr}{H:Hp}:∀{f:Fm}{p:Addr},bx CF H f p->sC CF H p (Vbavai.size f)
 | .tru,_,⟨dx,l,h,_⟩=>⟨dx,_,l,_,h⟩
 | .mark _,_,⟨_,dx,l,h,_⟩=>⟨dx,_,l,_,h⟩
 | .not _,_,⟨_,⟨dx,l,h,_⟩,_⟩=>⟨dx,_,l,_,h⟩
 | .and _ _,_,⟨_,_,⟨dx,l,h,_⟩,_⟩=>⟨dx,_,l,_,h⟩
 | .or _ _,_,⟨_,_,⟨dx,l,h,_⟩,_⟩=>⟨dx,_,l,_,h⟩
 | .next _,_,⟨_,⟨dx,l,h,_⟩,_⟩=>⟨dx,_,l,_,h⟩
 | .until_ _ _,_,⟨_,_,⟨dx,l,h,_⟩,_⟩=>⟨dx,_,l,_,h⟩
 | .within _ _ _,_,⟨_,_,_,⟨dx,l,h,_⟩,_⟩=>⟨dx,_,l,_,h⟩
 | .ever _,_,⟨_,⟨dx,l,h,_⟩,_⟩=>⟨dx,_,l,_,h⟩
inductive Bk(CF:Addr)(vs:List V)(H:Hp)(Q:VK)(z3_:XK):Prop
 | mk (p dx l:Addr) (kd:Str) (bv:V) (qs:List Addr) (ns:List Nat):vs=[.ref p,.str kd,.ref l,bv]->H p=some (.ins CF dx [])->H l=some (.lst (qs.map V.ref))->qs.length=ns.length->qs.length≤2->(∀(i:Nat)(q:Addr)(n:Nat),qs[i]?=some q->ns[i]?=some n->q≠p∧sC CF H q n)->(∀H':Hp,H' p=some (.ins CF dx (JT kd l bv (1+ns.sum)))->(∀b o,H b=some o->b≠p->H' b=some o)->Q .non H')->Bk CF vs H Q z3_
theorem pz{f:Addr}{fd:FuncData}{ds:Array Value}(F:B8 K "__init__" "Formula.__init__" bR f fd ds)(T:j3 mg)(TF:zq K CF):dh P w K mg base (ic P w C) 1 f fd ["self","kind","parts","bound"] (Bk CF):=by
 refine Kt F jv fun cdv A outer s H vs Q E hr h=>?_;obtain⟨p,dx,l,kd,bv,qs,ns,rfl,hp,hl,hlen,h2,hsz,k⟩:=h;have nd:=jv.nd
 refine⟨_,ae (eQ (pv 0) (pv 1) rfl) (ae (eQ (pv 0) (pv 2) rfl) (ae (eQ (pv 0) (pv 3) rfl) (ai (eQ (pv 0) (dD jA aA (aQ (Gu rfl) rfl T.sum boot_sum (a8
  (du (own:=[("part",4)]) (te:=Hm K (bL 4) "size") rfl nd (bF (pv 2)) (ba rfl) (fun _ _ _ _ _=>aO (i:=4) nd rfl (Or.inl rfl)) (fun _ _ _ _ _=>bP) (fun _ _ _ _ _=>aG (pv 4) rfl)) aa))) rfl)))),?_⟩
 have lp:l≠p:=cK hl hp (by intro z;cases z)
 refine⟨_,rfl,_,rfl,p,CF,dx,[],rfl,hp,TF.cl,TF.nk,(by show 0 < 1000;decide),?_⟩
 refine⟨_,rfl,_,rfl,p,CF,dx,_,rfl,a9,TF.cl,TF.np,(by show 1 < 1000;decide),?_⟩
 refine⟨_,rfl,_,rfl,p,CF,dx,_,rfl,a9,TF.cl,TF.nb,(by show 2 < 1000;decide),?_⟩
 rw[eG,eG];refine⟨_,rfl,l,rfl,⟨_,aH.of (by rw[ak lp];exact hl)⟩,fun D hD=>?_⟩
 have sq:∀q o,q≠p->H q=some o->∀H',aD (upd H p (.ins CF dx (gc "bound" bv (gc "parts" (.ref l) (gc "kind" (.str kd) []))))) H'->H' q=some o:=fun q o hq e H' sm=>sm _ _ (by rw[ak hq];exact e)
 refine cj (K:=K) (a:=l) (xs:=qs.map V.ref) (fun i H'=>H' D=some (.lst ((ns.map nat).take i))∧aD (upd H p (.ins CF dx (gc "bound" bv (gc "parts" (.ref l) (gc "kind" (.str kd) []))))) H') ⟨a9,ah hD⟩ (fun i H' _ pq=>aH.of (sq l _ lp hl H' pq.2)) ?_ ?_
 ·rintro i v H' hv ⟨p1,p2⟩;rw[Kw] at hv;obtain⟨q,hq,rfl⟩:=KF.mp hv;have hi:i < ns.length:=by rw[←hlen];exact(KQ.mp hq).1
  obtain⟨qp,dq,kq,lq,bq,hQ⟩:=hsz i q ns[i] hq (Kz hi);refine⟨rfl,_,rfl,q,CF,dq,_,_,rfl,sq q _ qp hQ H' p2,TF.cl,TF.ns,rfl,?_⟩;exact bD hD p1 p2 (by rw[Kw,Kz hi];rfl) (by rw[Kv];omega)
 ·rintro H' ⟨p1,p2⟩;rw[Kv,hlen,KS (by rw[Kv];exact KG _)] at p1
  have e1:ns.map nat=(ns.map fun(n:Nat)=>(n:Int)).map V.int:=by rw[Lc];rfl
  have e2:(1:Int)+(ns.map fun(n:Nat)=>(n:Int)).sum=((1+ns.sum:Nat):Int):=by
   rw[xU,Int.natCast_add];rfl
  refine⟨D,_,rfl,aH.of (by rw[←e1];exact p1),_,_,rfl,rfl,_,rfl,p,CF,dx,_,rfl,p2 _ _ a9,TF.cl,TF.ns,(by show 3 < 1000;decide),?_⟩
  refine k _ ?_ fun b o e hb=>?_
  ·rw[a9]
   try dsimp only
   rw[e2];rfl
  ·rw[ak hb];exact p2 _ _ (by rw[ak hb];exact e)
theorem bt{H1:Hp}{l x dx:Addr}{qs:List Addr}{ns:List Nat}{kd:Str}{bv:V}{R:VK}{E:XK}(hx:H1 x=none)(hdx:H1 dx=none)(ne:dx≠x)(hl:H1 l=some (.lst (qs.map V.ref)))(hlen:qs.length=ns.length)(h2:qs.length≤2)
  (hs:∀(i:Nat) (q:Addr) (n:Nat),qs[i]?=some q->ns[i]?=some n->sC CF H1 q n)(k:∀H',da CF H' x kd qs bv (1+ns.sum)->aD H1 H'->R .non H') :
  Bk CF [.ref x,.str kd,.ref l,bv] (upd (upd H1 dx (.own x)) x (.ins CF dx [])) R E:=by
 have old:∀b o,H1 b=some o->b≠x∧upd (upd H1 dx (.own x)) x (.ins CF dx []) b=some o:=fun b o e=>⟨aq e hx,by rw[ak (aq e hx),ak (aq e hdx)];exact e⟩
 refine⟨x,dx,l,kd,bv,qs,ns,rfl,a9,(old _ _ hl).2,hlen,h2,fun i q n e1 e2=>?_,fun H' e kp=>k H' ⟨dx,l,e,kp _ _ (old _ _ hl).2 (old _ _ hl).1⟩ fun b o e'=>kp _ _ (old _ _ e').2 (old _ _ e').1⟩;obtain⟨dq,kq,lq,bq,hq⟩:=hs i q n e1 e2;exact⟨(old _ _ hq).1,dq,kq,lq,bq,(old _ _ hq).2⟩
structure yQ(P:Program)(w:World)(K:Frag)(mg:Str->Option Value)(base:Heap)(C CF:Addr):Prop where
 ex:∃f fd,Mk K CF f∧dh P w K mg base (ic P w C) 1 f fd ["self","kind","parts","bound"] (Bk CF)∧mg "Formula"=some (.ref CF)∧d7 K fd ["self","kind","parts","bound"] [.none]∧d7 K fd ["self","kind","parts","bound"] []
section
variable{X:Cx}{C CF:Addr}{E:XK}{p pos:Pos}{e:Expr}{es:List Expr}{t:TA}
theorem dW(M:yQ X.prog X.w X.K X.mg X.base C CF)(hr:cX 2 X.A)(hg:Gl X "Formula")(ha:PA X (e::es) t)(he:starEach (e::es) X.env=(false,eval e X.env)::starEach es X.env:=by rfl)(hpl:(backTo pos (starEach es X.env)).any (·.1)=false:=by rfl) :
  PE X (.Call (.Name "Formula" p) (e::es) [] pos) (A9 CF (Bk CF) [.non] EF t):=by
 obtain⟨f,fd,mk,G,hm,b1,b2⟩:=M.ex;exact iL mk G hr hg hm b1 (.cons rfl .nil) ay ha (by decide) he hpl
theorem CV(M:yQ X.prog X.w X.K X.mg X.base C CF)(hr:cX 2 X.A)(hg:Gl X "Formula")(ha:PA X (e::es) t)(he:starEach (e::es) X.env=(false,eval e X.env)::starEach es X.env:=by rfl)(hpl:(backTo pos (starEach es X.env)).any (·.1)=false:=by rfl) :
  PE X (.Call (.Name "Formula" p) (e::es) [] pos) (A9 CF (Bk CF) [] EF t):=by
 obtain⟨f,fd,mk,G,hm,b1,b2⟩:=M.ex;exact iL mk G hr hg hm b2 .nil ay ha (by decide) he hpl
end
inductive d6(CF:Addr)(mk:Fm->Fm)(vs:List V)(H:Hp)(Q:VK)(z3_:XK):Prop
 | mk (q:Addr) (f:Fm):vs=[.ref q]->bx CF H f q->(∀(H':Hp)(p:Addr),bx CF H' (mk f) p->aD H H'->Q (.ref p) H')->d6 CF mk vs H Q z3_
theorem zB{CF:Addr}{H:Hp}{q:Addr}{n:Nat}(h:sC CF H q n):∀(i:Nat)(q':Addr)(n':Nat),([q]:List Addr)[i]?=some q'->([n]:List Nat)[i]?=some n'->sC CF H q' n'
 | 0,_,_,e1,e2=>by cases e1;cases e2;exact h
 | i+1,_,_,e1,_=>by simp at e1
theorem iY{CF:Addr}{H:Hp}{q r:Addr}{n m:Nat}(h:sC CF H q n)(h':sC CF H r m):∀(i:Nat)(q':Addr)(n':Nat),([q,r]:List Addr)[i]?=some q'->([n,m]:List Nat)[i]?=some n'->sC CF H q' n'
 | 0,_,_,e1,e2=>by cases e1;cases e2;exact h
 | 1,_,_,e1,e2=>by cases e1;cases e2;exact h'
 | i+2,_,_,e1,_=>by simp at e1
theorem yw(F:aK K mg "negated" ot)(M:yQ P w K mg base C CF):aS P w K mg base C 3 "negated" ["inner"] (d6 CF .not):=by
 refine F.cal AU fun f cdv A outer s H vs Q E hr h=>?_;obtain⟨q,fm,rfl,hf,k⟩:=h;refine⟨_,ai (aw (dW M hr rfl (a8 bf (a8 (aN (a8 (pv 0) aa)) aa)))),?_⟩;refine⟨_,rfl,fM,fun l hl x dx nx nd ne=>?_⟩;have s1:aD H (upd H l (.lst [.ref q])):=ah hl;exact bt (qs:=[q]) (ns:=[Vbavai.size fm]) nx nd ne a9 rfl (by show 1≤2;decide) (zB (hf.same s1).sz) fun H' hx sm=>⟨rfl,k H' x ⟨q,hx,hf.same (s1.trans sm)⟩ (s1.trans sm)⟩
theorem vp(F:aK K mg "some_next" jt)(M:yQ P w K mg base C CF):aS P w K mg base C 3 "some_next" ["inner"] (d6 CF .next):=by
 refine F.cal xr fun f cdv A outer s H vs Q E hr h=>?_;obtain⟨q,fm,rfl,hf,k⟩:=h;refine⟨_,ai (aw (dW M hr rfl (a8 bf (a8 (aN (a8 (pv 0) aa)) aa)))),?_⟩;refine⟨_,rfl,fM,fun l hl x dx nx nd ne=>?_⟩;have s1:aD H (upd H l (.lst [.ref q])):=ah hl;exact bt (qs:=[q]) (ns:=[Vbavai.size fm]) nx nd ne a9 rfl (by show 1≤2;decide) (zB (hf.same s1).sz) fun H' hx sm=>⟨rfl,k H' x ⟨q,hx,hf.same (s1.trans sm)⟩ (s1.trans sm)⟩
theorem lL(F:aK K mg "some_way_always" eJ)(M:yQ P w K mg base C CF):aS P w K mg base C 3 "some_way_always" ["inner"] (d6 CF .ever):=by
 refine F.cal mH fun f cdv A outer s H vs Q E hr h=>?_;obtain⟨q,fm,rfl,hf,k⟩:=h;refine⟨_,ai (aw (dW M hr rfl (a8 bf (a8 (aN (a8 (pv 0) aa)) aa)))),?_⟩;refine⟨_,rfl,fM,fun l hl x dx nx nd ne=>?_⟩;have s1:aD H (upd H l (.lst [.ref q])):=ah hl;exact bt (qs:=[q]) (ns:=[Vbavai.size fm]) nx nd ne a9 rfl (by show 1≤2;decide) (zB (hf.same s1).sz) fun H' hx sm=>⟨rfl,k H' x ⟨q,hx,hf.same (s1.trans sm)⟩ (s1.trans sm)⟩
theorem vb(F:aK K mg "some_time" kg)(M:yQ P w K mg base C CF):aS P w K mg base C 3 "some_time" ["inner"] (d6 CF Vbavai.canCome):=by
 refine F.cal xn fun f cdv A outer s H vs Q E hr h=>?_;obtain⟨q,fm,rfl,hf,k⟩:=h;refine⟨_,ai (aw (dW M hr rfl (a8 bf (a8 (aN (a8 (dW M hr rfl (a8 bf (a8 (aN aa) aa))) (a8 (pv 0) aa))) aa)))),?_⟩;refine⟨KZ _,fun l0 hl0 x1 d1 nx1 nd1 ne1=>?_⟩;have s0:aD H (upd H l0 (.lst [])):=ah hl0;refine bt (qs:=[]) (ns:=[]) nx1 nd1 ne1 a9 rfl (KZ _) (fun i q' n e=>by simp at e) fun H1 hx1 s1=>⟨rfl,?_⟩
 refine⟨_,rfl,A6,fun l hl x dx nx nd ne=>?_⟩;have s2:aD H1 (upd H1 l (.lst [.ref x1,.ref q])):=ah hl;have t1:bx CF (upd H1 l (.lst [.ref x1,.ref q])) .tru x1:=da.same hx1 s2;have t2:=hf.same ((s0.trans s1).trans s2);have e:1+[1,Vbavai.size fm].sum=Vbavai.size (Vbavai.canCome fm):=by simp[Vbavai.canCome,Vbavai.size];omega
 exact bt (qs:=[x1,q]) (ns:=[1,Vbavai.size fm]) nx nd ne a9 rfl (by show 2≤2;decide) (iY t1.sz t2.sz) fun H' hx sm=>⟨rfl,by
  rw[e] at hx;exact k H' x ⟨x1,q,hx,t1.same sm,t2.same sm⟩ (((s0.trans s1).trans s2).trans sm)⟩
theorem sV(F:aK K mg "every_next" iF)(cN:aS P w K mg base C 3 "negated" ["inner"] (d6 CF .not))(cI:aS P w K mg base C 3 "some_next" ["inner"] (d6 CF .next)):aS P w K mg base C 5 "every_next" ["inner"] (d6 CF Vbavai.allNext):=by
 refine F.cal uX fun f cdv A outer s H vs Q E hr h=>?_;obtain⟨q,fm,rfl,hf,k⟩:=h;refine⟨_,ai (aw (aj cN (hr.mono (by decide)) rfl ay (a8 (aj cI (hr.mono (by decide)) rfl ay (a8 (aj cN (hr.mono (by decide)) rfl ay (a8 (pv 0) aa)) aa)) aa))),?_⟩
 exact⟨_,rfl,q,fm,rfl,hf,fun H1 p1 f1 s1=>⟨p1,_,rfl,f1,fun H2 p2 f2 s2=>⟨p2,_,rfl,f2,fun H3 p3 f3 s3=>k H3 p3 f3 ((s1.trans s2).trans s3)⟩⟩⟩
theorem j7(F:aK K mg "every_way_some_time" dj)(cN:aS P w K mg base C 3 "negated" ["inner"] (d6 CF .not))(cI:aS P w K mg base C 3 "some_way_always" ["inner"] (d6 CF .ever)):aS P w K mg base C 5 "every_way_some_time" ["inner"] (d6 CF Vbavai.mustCome):=by
 refine F.cal jn fun f cdv A outer s H vs Q E hr h=>?_;obtain⟨q,fm,rfl,hf,k⟩:=h;refine⟨_,ai (aw (aj cN (hr.mono (by decide)) rfl ay (a8 (aj cI (hr.mono (by decide)) rfl ay (a8 (aj cN (hr.mono (by decide)) rfl ay (a8 (pv 0) aa)) aa)) aa))),?_⟩
 exact⟨_,rfl,q,fm,rfl,hf,fun H1 p1 f1 s1=>⟨p1,_,rfl,f1,fun H2 p2 f2 s2=>⟨p2,_,rfl,f2,fun H3 p3 f3 s3=>k H3 p3 f3 ((s1.trans s2).trans s3)⟩⟩⟩
theorem kS(F:aK K mg "every_way_always" dX)(cN:aS P w K mg base C 3 "negated" ["inner"] (d6 CF .not))(cI:aS P w K mg base C 3 "some_time" ["inner"] (d6 CF Vbavai.canCome)):aS P w K mg base C 5 "every_way_always" ["inner"] (d6 CF Vbavai.always_):=by
 refine F.cal lF fun f cdv A outer s H vs Q E hr h=>?_;obtain⟨q,fm,rfl,hf,k⟩:=h;refine⟨_,ai (aw (aj cN (hr.mono (by decide)) rfl ay (a8 (aj cI (hr.mono (by decide)) rfl ay (a8 (aj cN (hr.mono (by decide)) rfl ay (a8 (pv 0) aa)) aa)) aa))),?_⟩
 exact⟨_,rfl,q,fm,rfl,hf,fun H1 p1 f1 s1=>⟨p1,_,rfl,f1,fun H2 p2 f2 s2=>⟨p2,_,rfl,f2,fun H3 p3 f3 s3=>k H3 p3 f3 ((s1.trans s2).trans s3)⟩⟩⟩
def Hw(i:Nat)(f:Addr)(sp:Sp)(E:XK)(t:TA):TE:=fun σ H Q=>σ[i]?=some (some (.ref f))∧t σ H fun vs H1=>sp vs H1 Q E
section
variable{X:Cx}{CX:Cc}{i k:Nat}{f:Addr}{fd:FuncData}{ps:List Str}{sp:Sp}{E:XK}{x:Str}{p pos:Pos}{e:Expr}{es:List Expr}{t:TA}
theorem Er(hN:X.N[i]?=some x)(hv:Hu X.env.scope x)(F:dh X.prog X.w X.K X.mg X.base CX k f fd ps sp)(hr:cX k X.A)(hk:keepIn X.K (.ref f)=true)(hb:d7 X.K fd ps [])(hx:dC CX X E)(ha:PA X (e::es) t)
  (hd:(x==("__debug__":Str))=false:=by decide)(hcd:(x==("__classdict__":Str))=false:=by decide)(he:starEach (e::es) X.env=(false,eval e X.env)::starEach es X.env:=by rfl)(hpl:(backTo pos (starEach es X.env)).any (·.1)=false:=by rfl) :
  PE X (.Call (.Name x p) (e::es) [] pos) (Hw i f sp E t):=by
 intro pins s σ H Q I h;obtain⟨hi,h⟩:=h;refine wpAny_Call_Name_kw (bE (D3 hN hv hd hcd pins s σ H (fun v H1=>v=.ref f∧H1=H) I ⟨_,hi,rfl,rfl⟩) fun u s1 ⟨v,H1,I1,rv,ev,eH⟩=>?_);subst ev eH;obtain rfl:u=Value.ref f:=rv;refine PySem.W.callWith_K (h₀:=X.base) I.ok.mod.kin hk (bE (ha pos pins s1 σ H1 _ I1 h) fun us s2 ⟨vs,H2,I2,r,q⟩=>⟨I2.kIn,?_⟩) he hpl;exact rR F hr hb .nil hx I2 r (by rw[Lp];exact q)
end
inductive Df(CF:Addr)(mk:Fm->Fm->Fm)(vs:List V)(H:Hp)(Q:VK)(z3_:XK):Prop
 | mk (q r:Addr) (f g:Fm):vs=[.ref q,.ref r]->bx CF H f q->bx CF H g r->(∀(H':Hp)(p:Addr),bx CF H' (mk f g) p->aD H H'->Q (.ref p) H')->Df CF mk vs H Q z3_
inductive B4(CF:Addr):Str->(Fm->Fm)->Str->Prop
 | not:B4 CF "not" .not "negated"
 | ex:B4 CF "EX" .next "some_next"
 | ax:B4 CF "AX" Vbavai.allNext "every_next"
 | ef:B4 CF "EF" Vbavai.canCome "some_time"
 | af:B4 CF "AF" Vbavai.mustCome "every_way_some_time"
 | eg:B4 CF "EG" .ever "some_way_always"
 | ag:B4 CF "AG" Vbavai.always_ "every_way_always"
inductive Ar(CF:Addr)(vs:List V)(H:Hp)(Q:VK)(z3_:XK):Prop
 | mk (wd g:Str) (mk:Fm->Fm) (q:Addr) (f:Fm):vs=[.str wd,.ref q]->B4 CF wd mk g->bx CF H f q->(∀(H':Hp)(p:Addr),bx CF H' (mk f) p->aD H H'->Q (.ref p) H')->Ar CF vs H Q z3_
inductive GY:Str->V->(Fm->Fm->Fm)->Prop
 | and:GY "and" .non .and
 | or:GY "or" .non .or
 | eu:GY "EU" .non .until_
 | euk (k:Nat):k≤12->GY "EU" (nat k) (.within k)
 | au:GY "AU" .non Vbavai.allUntil
inductive xa(CF:Addr)(vs:List V)(H:Hp)(Q:VK)(z3_:XK):Prop
 | mk (wd:Str) (bv:V) (mk:Fm->Fm->Fm) (q r:Addr) (f g:Fm):vs=[.str wd,.ref q,.ref r,bv]->GY wd bv mk->bx CF H f q->bx CF H g r->(∀(H':Hp)(p:Addr),bx CF H' (mk f g) p->aD H H'->Q (.ref p) H')->xa CF vs H Q z3_
theorem lB(F:aK K mg "every_way_until" eC)(M:yQ P w K mg base C CF)(cN:aS P w K mg base C 3 "negated" ["inner"] (d6 CF .not))(cG:aS P w K mg base C 3 "some_way_always" ["inner"] (d6 CF .ever)) :
  aS P w K mg base C 4 "every_way_until" ["first","second"] (Df CF Vbavai.allUntil):=by
 refine F.cal gE fun fa cdv A outer s H vs Q E hr h=>?_;obtain⟨q,r,f,g,rfl,hf,hg,k⟩:=h;have nd:=gE.nd;have hr2:=hr.mono (show 2≤3 by decide)
 refine⟨_,ae (aE (i:=2) nd rfl (Or.inl rfl) (dW M hr2 rfl (a8 bf (a8 (aN (a8 (aj cN hr rfl ay (a8 (pv 0) aa)) (a8 (aj cN hr rfl ay (a8 (pv 1) aa)) aa))) aa))))
  (ae (aE (i:=3) nd rfl (Or.inl rfl) (dW M hr2 rfl (a8 bf (a8 (aN (a8 (aj cN hr rfl ay (a8 (pv 1) aa)) (a8 (pv 2) aa))) aa))))
  (ai (aw (aj cN hr rfl ay (a8 (dW M hr2 rfl (a8 bf (a8 (aN (a8 (pv 3) (a8 (aj cG hr rfl ay (a8 (aj cN hr rfl ay (a8 (pv 1) aa)) aa)) aa))) aa))) aa))))),?_⟩
 refine⟨_,rfl,q,f,rfl,hf,fun H1 p1 f1 s1=>⟨_,rfl,r,g,rfl,hg.same s1,fun H2 p2 f2 s2=>⟨A6,fun l hl x dx nx ndx ne=>?_⟩⟩⟩;have a1:aD H2 (upd H2 l (.lst [.ref p1,.ref p2])):=ah hl;refine bt (qs:=[p1,p2]) (ns:=[Vbavai.size (.not f),Vbavai.size (.not g)]) nx ndx ne a9 rfl (by show 2≤2;decide) (iY ((f1.same s2).same a1).sz (f2.same a1).sz) fun H3 hx s3=>⟨rfl,?_⟩
 have t3:aD H H3:=(s1.trans s2).trans (a1.trans s3);have eAnd:1+[Vbavai.size (.not f),Vbavai.size (.not g)].sum=Vbavai.size (.and (.not f) (.not g)):=by simp[Vbavai.size];omega
 rw[eAnd] at hx;have hAnd:bx CF H3 (.and (.not f) (.not g)) x:=⟨p1,p2,hx,((f1.same s2).same a1).same s3,(f2.same a1).same s3⟩;refine⟨_,rfl,r,g,rfl,hg.same t3,fun H4 p4 f4 s4=>⟨_,rfl,A6,fun l2 hl2 x2 dx2 nx2 ndx2 ne2=>?_⟩⟩;have a2:aD H4 (upd H4 l2 (.lst [.ref p4,.ref x])):=ah hl2;refine bt (qs:=[p4,x]) (ns:=[Vbavai.size (.not g),Vbavai.size (.and (.not f) (.not g))]) nx2 ndx2 ne2 a9 rfl (by show 2≤2;decide) (iY (f4.same a2).sz ((hAnd.same s4).same a2).sz) fun H5 hx5 s5=>⟨rfl,?_⟩
 have t5:aD H H5:=t3.trans (s4.trans (a2.trans s5));have eEU:1+[Vbavai.size (.not g),Vbavai.size (.and (.not f) (.not g))].sum=Vbavai.size (.until_ (.not g) (.and (.not f) (.not g))):=by simp[Vbavai.size];omega
 rw[eEU] at hx5;have hEU:bx CF H5 (.until_ (.not g) (.and (.not f) (.not g))) x2:=⟨p4,x,hx5,(f4.same a2).same s5,((hAnd.same s4).same a2).same s5⟩;refine⟨_,rfl,_,rfl,r,g,rfl,hg.same t5,fun H6 p6 f6 s6=>⟨p6,_,rfl,f6,fun H7 p7 f7 s7=>⟨A6,fun l3 hl3 x3 dx3 nx3 ndx3 ne3=>?_⟩⟩⟩;have a3:aD H7 (upd H7 l3 (.lst [.ref x2,.ref p7])):=ah hl3;have hE7:=((hEU.same s6).same s7).same a3;refine bt (qs:=[x2,p7]) (ns:=[Vbavai.size (.until_ (.not g) (.and (.not f) (.not g))),Vbavai.size (.ever (.not g))]) nx3 ndx3 ne3 a9 rfl (by show 2≤2;decide) (iY hE7.sz (f7.same a3).sz) fun H8 hx8 s8=>⟨rfl,?_⟩
 have t8:aD H H8:=t5.trans ((s6.trans s7).trans (a3.trans s8));have eO:1+[Vbavai.size (.until_ (.not g) (.and (.not f) (.not g))),Vbavai.size (.ever (.not g))].sum=Vbavai.size (.or (.until_ (.not g) (.and (.not f) (.not g))) (.ever (.not g))):=by simp[Vbavai.size];omega
 rw[eO] at hx8;have hOr:bx CF H8 (.or (.until_ (.not g) (.and (.not f) (.not g))) (.ever (.not g))) x3:=⟨x2,p7,hx8,hE7.same s8,(f7.same a3).same s8⟩;exact⟨x3,_,rfl,hOr,fun H9 p9 f9 s9=>k H9 p9 f9 (t8.trans s9)⟩
structure Ka(P:Program)(w:World)(K:Frag)(mg:Str->Option Value)(base:Heap)(C CF:Addr)(es:Array DictEntry):Prop where
 at_:∀wd mk g,B4 CF wd mk g->∃f,findBy Value.isStrOf es wd=some (.ref f)∧∃fd,dh P w K mg base (ic P w C) 5 f fd ["inner"] (d6 CF mk)∧keepIn K (.ref f)=true∧d7 K fd ["inner"] []
theorem xM(F:aK K mg "prefixed" lJ){d:Addr}{es:Array DictEntry}(M:lr K mg w "BUILDERS" d es)(B:Ka P w K mg base C CF es):aS P w K mg base C 6 "prefixed" ["word","inner"] (Ar CF):=by
 refine F.cal qe fun fa cdv A outer s H vs Q E hr h=>?_;obtain⟨wd,gn,mk,q,f,rfl,pr,hf,k⟩:=h;obtain⟨fb,hfind,fd,G,kp,b⟩:=B.at_ wd mk gn pr;have nd:=qe.nd;refine⟨_,ae (aE (i:=2) nd rfl (Or.inl rfl) (rY M rfl (pv 0) (fun _ _=>rfl))) (ai (aw (Er (i:=2) rfl (Or.inl rfl) G hr kp b ay (a8 (pv 1) aa)))),?_⟩;exact⟨_,rfl,_,_,.ref fb,rfl,hfind,rfl,rfl,_,rfl,q,f,rfl,hf,k⟩
theorem Bz(F:aK K mg "joined" rj)(M:yQ P w K mg base C CF)(cU:aS P w K mg base C 4 "every_way_until" ["first","second"] (Df CF Vbavai.allUntil)):aS P w K mg base C 5 "joined" ["word","first","second","bound"] (xa CF):=by
 refine F.cal xE fun fa cdv A outer s H vs Q E hr h=>?_;obtain⟨wd,bv,mk,q,r,f,g,rfl,jo,hf,hg,k⟩:=h;have nd:=xE.nd
 refine⟨_,ae (aV (aI bV (pv 0) bf (aR _)) (ai (aw (aj cU hr rfl ay (a8 (pv 1) (a8 (pv 2) aa))))) aB)
  (ai (aw (CV M (hr.mono (by decide)) rfl (a8 (pv 0) (a8 (aN (a8 (pv 1) (a8 (pv 2) aa))) (a8 (pv 3) aa)))))),?_⟩
 have two:∀(wd:Str)(bv:V)(H':Hp)(x:Addr),da CF H' x wd [q,r] bv (1+[Vbavai.size f,Vbavai.size g].sum)->da CF H' x wd [q,r] bv (1+Vbavai.size f+Vbavai.size g):=fun wd bv H' x h=>by
  have e:1+[Vbavai.size f,Vbavai.size g].sum=1+Vbavai.size f+Vbavai.size g:=by simp;omega
  rw[←e];exact h
 cases jo with
 | au=>exact⟨_,rfl,rfl,_,rfl,gz (by decide) ⟨_,rfl,_,rfl,q,r,f,g,rfl,hf,hg,k⟩⟩
 | and =>
  refine⟨_,rfl,rfl,_,rfl,bC (by decide) ⟨_,rfl,_,rfl,_,rfl,A6,fun l hl=>⟨_,rfl,fun x dx nx ndx ne=>?_⟩⟩⟩
  have s1:aD H (upd H l (.lst [.ref q,.ref r])):=ah hl;exact bt (qs:=[q,r]) (ns:=[Vbavai.size f,Vbavai.size g]) nx ndx ne a9 rfl (by show 2≤2;decide) (iY (hf.same s1).sz (hg.same s1).sz) fun H' hx sm=>⟨rfl,k H' x ⟨q,r,two _ _ _ _ hx,hf.same (s1.trans sm),hg.same (s1.trans sm)⟩ (s1.trans sm)⟩
 | or =>
  refine⟨_,rfl,rfl,_,rfl,bC (by decide) ⟨_,rfl,_,rfl,_,rfl,A6,fun l hl=>⟨_,rfl,fun x dx nx ndx ne=>?_⟩⟩⟩
  have s1:aD H (upd H l (.lst [.ref q,.ref r])):=ah hl;exact bt (qs:=[q,r]) (ns:=[Vbavai.size f,Vbavai.size g]) nx ndx ne a9 rfl (by show 2≤2;decide) (iY (hf.same s1).sz (hg.same s1).sz) fun H' hx sm=>⟨rfl,k H' x ⟨q,r,two _ _ _ _ hx,hf.same (s1.trans sm),hg.same (s1.trans sm)⟩ (s1.trans sm)⟩
 | eu =>
  refine⟨_,rfl,rfl,_,rfl,bC (by decide) ⟨_,rfl,_,rfl,_,rfl,A6,fun l hl=>⟨_,rfl,fun x dx nx ndx ne=>?_⟩⟩⟩
  have s1:aD H (upd H l (.lst [.ref q,.ref r])):=ah hl;exact bt (qs:=[q,r]) (ns:=[Vbavai.size f,Vbavai.size g]) nx ndx ne a9 rfl (by show 2≤2;decide) (iY (hf.same s1).sz (hg.same s1).sz) fun H' hx sm=>⟨rfl,k H' x ⟨q,r,two _ _ _ _ hx,hf.same (s1.trans sm),hg.same (s1.trans sm)⟩ (s1.trans sm)⟩
 | euk n hn =>
  refine⟨_,rfl,rfl,_,rfl,bC (by decide) ⟨_,rfl,_,rfl,_,rfl,A6,fun l hl=>⟨_,rfl,fun x dx nx ndx ne=>?_⟩⟩⟩
  have s1:aD H (upd H l (.lst [.ref q,.ref r])):=ah hl;exact bt (qs:=[q,r]) (ns:=[Vbavai.size f,Vbavai.size g]) nx ndx ne a9 rfl (by show 2≤2;decide) (iY (hf.same s1).sz (hg.same s1).sz) fun H' hx sm=>⟨rfl,k H' x ⟨hn,q,r,two _ _ _ _ hx,hf.same (s1.trans sm),hg.same (s1.trans sm)⟩ (s1.trans sm)⟩
end Can
namespace Can
open PySem PySem.Spec PyProof.Rows L2 XL
open TL (tl)
variable{P:Program}{w:World}{K:Frag}{mg:Str->Option Value}{base:Heap}{C CG CF CT CR CY:Addr}
def WS(ws:List Str)(ts:List (List Nat)):Prop:=ws.map tl=ts.map (List.map VM.ny)
theorem WS.len{ws:List Str}{ts:List (List Nat)}(h:WS ws ts):ws.length=ts.length:=by
 have:=congrArg List.length h
 rwa [Kv,Kv] at this
theorem WS.get{ws:List Str}{ts:List (List Nat)}(h:WS ws ts){i:Nat}{t:List Nat}(e:ts[i]?=some t):∃w,ws[i]?=some w∧tl w=t.map VM.ny:=by
 have h2:=congrArg (fun l=>l[i]?) h;simp only[Kw,e,Option.map_some] at h2;obtain⟨w,hw,e2⟩:=KF.mp h2;exact⟨w,hw,e2⟩
def b9(ws:List Str)(i:Nat):Str:=ws.getD i ""
theorem d8{ws:List Str}{i:Nat}{w:Str}(h:ws[i]?=some w):b9 ws i=w:=by unfold b9;rw[KP,h];rfl
theorem dZ{ws:List Str}:b9 ws ws.length="":=by unfold b9;rw[KP,L8 (KG _)];rfl
def Kd(wl:Addr)(i:Nat):List (Str×V):=[("words",.ref wl),("taken",nat i)]
structure yr(CR:Addr)(H:Hp)(r wl:Addr)(ws:List Str)(i:Nat):Prop where
 obj:∃dx,H r=some (.ins CR dx (Kd wl i))
 wds:H wl=some (.lst (ws.map V.str))
def SB(r:Addr)(H H':Hp):Prop:=∀b o,H b=some o->b≠r->H' b=some o
theorem SB.trans{r:Addr}{H H1 H2:Hp}(a:SB r H H1)(b:SB r H1 H2):SB r H H2:=fun c o e n=>b c o (a c o e n) n
theorem SB.of{r:Addr}{H H':Hp}(s:aD H H'):SB r H H':=fun b o e _=>s b o e
theorem yr.same{CR:Addr}{H H':Hp}{r wl:Addr}{ws:List Str}{i:Nat}(h:yr CR H r wl ws i)(s:aD H H'):yr CR H' r wl ws i:=by
 obtain⟨⟨dx,h1⟩,h2⟩:=h;exact⟨⟨dx,s _ _ h1⟩,s _ _ h2⟩
structure qm(K:Frag)(CR:Addr):Prop where
 cl:wN K CR
 nw:cQ K CR "words"
 nt:cQ K CR "taken"
inductive uP(CR:Addr)(vs:List V)(H:Hp)(Q:VK)(z3_:XK):Prop
 | mk (r dx wl:Addr):vs=[.ref r,.ref wl]->H r=some (.ins CR dx [])->(∀H':Hp,H' r=some (.ins CR dx (Kd wl 0))->SB r H H'->Q .non H')->uP CR vs H Q z3_
inductive fU(CR:Addr)(vs:List V)(H:Hp)(Q:VK)(z3_:XK):Prop
 | mk (r wl:Addr) (ws:List Str) (i:Nat):vs=[.ref r]->yr CR H r wl ws i->i≤ws.length->ws.length≤1000->Q (.str (b9 ws i)) H->fU CR vs H Q z3_
inductive jO(CR:Addr)(vs:List V)(H:Hp)(Q:VK)(z3_:XK):Prop
 | mk (r wl:Addr) (ws:List Str) (i:Nat):vs=[.ref r]->yr CR H r wl ws i->(∀H':Hp,yr CR H' r wl ws (i+1)->SB r H H'->Q .non H')->jO CR vs H Q z3_
structure d4(P:Program)(w:World)(K:Frag)(mg:Str->Option Value)(base:Heap)(C CC:Addr)(k:Nat)(m:Str)(ps:List Str)(sp:Sp):Prop where
 ex:∃f fd,dh P w K mg base (ic P w C) k f fd ps sp∧DT K CC m f∧d7 K fd ps []
structure i6(K:Frag)(CC:Addr)(m qual:Str)(st:Stmt):Prop where
 ex:∃f fd,yd K m qual st f fd∧DT K CC m f
section
variable{P:Program}{w:World}{K:Frag}{mg:Str->Option Value}{base:Heap}{C CC:Addr}
theorem i6.cal{m qual:Str}{st:Stmt}{N ps:List Str}{k:Nat}{sp:Sp}(F:i6 K CC m qual st)(S:az N ps (ao st))
 (hbody:∀(f:Addr) (cdv:Value) (A:Around) (outer:List Env) (s:Shared) (H:Hp) (vs:List V) (Q:VK) (E:XK),cX k (A.deeper (envOfC qual (ao st) s.heap.objs.size f cdv))->sp vs H Q E →
   ∃t,yc (oy (ic P w C) P w K mg base N qual (ao st) f cdv A outer s H E) (cq st) t∧t {nx:=fun _ H'=>Q .non H',rt:=Q} (start N vs) H)
  (len:∀vs H Q E,sp vs H Q E->vs.length=ps.length:=by intro _ _ _ _ h;cases h;subst_vars;rfl)
  (hb:∀(kV doc pm:Value) (an:Option Addr) (cdv ct:Value) (us:List Value),us.length=ps.length->bindArgs (fnOf m qual (dN st) (cq st) (ao st) .none kV doc pm an cdv ct) ⟨us,[]⟩=pure (ps.zip us):=by intro _ _ _ _ _ _ us hl;first | (obtain⟨_,rfl⟩:=JK hl;rfl) | (obtain⟨_,_,rfl⟩:=JI hl;rfl) | (obtain⟨_,_,_,rfl⟩:=JA hl;rfl) | (obtain⟨_,_,_,_,rfl⟩:=Jf hl;rfl) | (obtain rfl:=List.eq_nil_of_length_eq_zero hl;rfl)):d4 P w K mg base C CC (k+1) m ps sp:=by
 obtain⟨f,fd,F,hm⟩:=F.ex;exact⟨f,fd,Gn F S (fun cdv A outer s H vs Q E hr hsp=>hbody f cdv A outer s H vs Q E hr hsp) len,hm,F.binds hb⟩
end
section
variable{X:Cx}{C CC:Addr}{k:Nat}{ps:List Str}{sp:Sp}{E:XK}{m:Str}{apos pos:Pos}{o e:Expr}{es:List Expr}{ta:TE}{t:TA}
theorem fE{pl:Sem Bool}(he:PE X o ta)(cl:wN X.K CC)(c:d4 X.prog X.w X.K X.mg X.base C CC k m ps sp)(hr:cX k X.A)(hx:dC (ic X.prog X.w C) X E)
  (ht:eval (.Call (.Attribute o m apos) [] [] pos) X.env=(do
   let ov ←eval o X.env
   standAt apos.atName
   let (f,first) ←holding [ov] (getMethod ov m pl)
   callWith pos f first (backTo pos (starEach [] X.env)) (backToKw pos (keywordEach [] X.env))):=by rfl):PE X (.Call (.Attribute o m apos) [] [] pos) (xx CC m sp [] E ta gP):=by
 obtain⟨f,fd,G,hm,b⟩:=c.ex;exact Es he cl hm G hr b .nil hx ht
theorem gM{pl:Sem Bool}(he:PE X o ta)(cl:wN X.K CC)(c:d4 X.prog X.w X.K X.mg X.base C CC k m ps sp)(hr:cX k X.A)(hx:dC (ic X.prog X.w C) X E)(ha:PA X (e::es) t)
  (hst:starEach (e::es) X.env=(false,eval e X.env)::starEach es X.env:=by rfl)(hpl:(backTo pos (starEach es X.env)).any (·.1)=false:=by rfl)
  (ht:eval (.Call (.Attribute o m apos) (e::es) [] pos) X.env=(do
   let ov ←eval o X.env
   standAt apos.atName
   let (f,first) ←holding [ov] (getMethod ov m pl)
   callWith pos f first (backTo pos (starEach (e::es) X.env)) (backToKw pos (keywordEach [] X.env))):=by rfl):PE X (.Call (.Attribute o m apos) (e::es) [] pos) (xx CC m sp [] E ta t):=by
 obtain⟨f,fd,G,hm,b⟩:=c.ex;exact Ft he cl hm G hr b .nil hx ha hst hpl ht
end
structure y9(K:Frag)(mg:Str->Option Value):Prop where
 eND:∃t,mg "END"=some (.str "" t)
 leaves:∃a,mg "LEAVES"=some (.ref a)∧∀H,eB K H a ((["true","m0","m1","m2","m3"]:List Str).map V.str)
 prefixes:∃a,mg "PREFIXES"=some (.ref a)∧∀H,eB K H a ((["not","EX","AX","EF","AF","EG","AG"]:List Str).map V.str)
 joiners:∃a,mg "JOINERS"=some (.ref a)∧∀H,eB K H a ((["and","or","EU","AU"]:List Str).map V.str)
 deepest:∃t,mg "DEEPEST"=some (.int 40 t)
 bound:∃t,mg "GREATEST_BOUND"=some (.int 12 t)
theorem qV{f:Addr}{fd:FuncData}(F:yd K "__init__" "Reader.__init__" hU f fd)(TR:qm K CR):dh P w K mg base (ic P w C) 1 f fd ["self","words"] (uP CR):=by
 refine Gn F sG fun cdv A outer s H vs Q E hr h=>?_;obtain⟨r,dx,wl,rfl,hr',k⟩:=h;refine⟨_,ae (eQ (pv 0) (pv 1) rfl) (ai (eQ (pv 0) aA rfl)),?_⟩;refine⟨_,rfl,_,rfl,r,CR,dx,[],rfl,hr',TR.cl,TR.nw,(by show 0 < 1000;decide),?_⟩
 refine⟨_,rfl,r,CR,dx,_,rfl,a9,TR.cl,TR.nt,(by show 1 < 1000;decide),?_⟩
 rw[eG];exact k _ a9 fun b o e hb=>by rw[ak hb];exact e
theorem Dv(F:i6 K CR "ahead" "Reader.ahead" gh)(T:j3 mg)(TR:qm K CR)(TT:y9 K mg):d4 P w K mg base C CR 1 "ahead" ["self"] (fU CR):=by
 refine F.cal qE fun f cdv A outer s H vs Q E hr h=>?_;obtain⟨r,wl,ws,i,rfl,⟨⟨dx,hobj⟩,hw⟩,hi,hlen,k⟩:=h;obtain⟨te,hE⟩:=TT.eND
 refine⟨_,ae (aV (aI bV (aG (pv 0) rfl) (aQ aU rfl T.len boot_len (a8 (aG (pv 0) rfl) aa)) (aR _)) (ai (aw (bo (v:=.str "") rfl hE ⟨te,rfl⟩))) aB)
  (ai (aw (aY aF (aG (pv 0) rfl) (aG (pv 0) rfl) (fun _ _=>rfl)))),?_⟩
 refine⟨_,rfl,r,CR,dx,_,_,rfl,hobj,TR.cl,TR.nt,rfl,_,rfl,r,CR,dx,_,_,rfl,hobj,TR.cl,TR.nw,rfl,wl,_,rfl,.inl (aH.of hw),rfl,_,rfl,?_⟩;refine de (fun h=>?_) (fun h=>?_)
 ·have e:i=ws.length:=by
   have:=Lm h;injection this with z
   rw[Kv] at z;omega
  subst e;show Q (.str "") H;rw[dZ] at k;exact k
 ·have hne:i≠ws.length:=fun e=>h (by subst e;rw[Kv];exact Ll rfl)
  have hlt:i < ws.length:=by omega
  refine⟨_,rfl,r,CR,dx,_,_,rfl,hobj,TR.cl,TR.nw,rfl,_,rfl,r,CR,dx,_,_,rfl,hobj,TR.cl,TR.nt,rfl,wl,_,_,.str (b9 ws i),rfl,rfl,aH.of hw,Dx rfl ?_,k⟩;rw[Kw,Kz hlt,d8 (Kz hlt)];rfl
theorem ES(F:i6 K CR "take" "Reader.take" gU)(TR:qm K CR):d4 P w K mg base C CR 1 "take" ["self"] (jO CR):=by
 refine F.cal sS fun f cdv A outer s H vs Q E hr h=>?_;obtain⟨r,wl,ws,i,rfl,⟨⟨dx,hobj⟩,hw⟩,k⟩:=h;refine⟨_,ai (BO (pv 0) aA HJ),?_⟩;refine⟨_,rfl,r,CR,dx,_,_,rfl,hobj,TR.cl,TR.nt,rfl,_,_,rfl,rfl,dx,_,hobj,(by show 2 < 1000;decide),?_⟩
 have wr:wl≠r:=cK hw hobj (by intro z;cases z)
 refine k _ ⟨⟨dx,?_⟩,by rw[ak wr];exact hw⟩ fun b o e hb=>by rw[ak hb];exact e
 rw[a9];rfl
end Can
namespace VM
open Vbavai
theorem kO(x:List Int):cutList ((x.length:Int)::x)=some (x,[]):=by
 unfold cutList;dsimp only;rw[if_pos ⟨Int.natCast_nonneg _,Int.le_refl _⟩,Lk,Lo,List.drop_length]
theorem ED(x y:List Int):cutList ((x.length:Int)::(x++y))=some (x,y):=by
 unfold cutList;dsimp only;rw[if_pos ⟨Int.natCast_nonneg _,by rw[Ky];omega⟩,Lk,List.take_left,List.drop_left]
theorem Bf(s:St)(m:Int):VbavaiNeutral.step s [[0,m]]=Vbavai.step s (.node m):=rfl
theorem B3(s:St)(a b:Int):VbavaiNeutral.step s [[1,a,b]]=Vbavai.step s (.edge a b):=rfl
theorem Cw(s:St)(a b:Int):VbavaiNeutral.step s [[2,a,b]]=Vbavai.step s (.cut a b):=rfl
theorem yZ(s:St)(a b:Int):VbavaiNeutral.step s [[3,a,b]]=Vbavai.step s (.marks a b):=rfl
theorem BR(s:St)(a:Int):VbavaiNeutral.step s [[4,a]]=Vbavai.step s (.told a):=rfl
theorem uM(s:St):VbavaiNeutral.step s [[8]]=Vbavai.step s .classes:=rfl
theorem zL(s:St)(a b:Int):VbavaiNeutral.step s [[9,a,b]]=Vbavai.step s (.apart a b):=rfl
theorem sE(s:St):VbavaiNeutral.step s [[10]]=Vbavai.step s .quotient:=rfl
theorem ym(s:St)(x:List Int):VbavaiNeutral.step s [[5],x]=Vbavai.step s (.holds x):=by
 have e:VbavaiNeutral.row [[5],x]=5::(x.length:Int)::x:=congrArg (5::·) (Lp _);have d:decode (5::(x.length:Int)::x)=(match cutList ((x.length:Int)::x) with | some (t,[])=>some (Call.holds t) | _=>none):=rfl
 unfold VbavaiNeutral.step does;rw[e,d,kO]
theorem BJ(s:St)(x:List Int):VbavaiNeutral.step s [[7],x]=Vbavai.step s (.form x):=by
 have e:VbavaiNeutral.row [[7],x]=7::(x.length:Int)::x:=congrArg (7::·) (Lp _);have d:decode (7::(x.length:Int)::x)=(match cutList ((x.length:Int)::x) with | some (t,[])=>some (Call.form t) | _=>none):=rfl
 unfold VbavaiNeutral.step does;rw[e,d,kO]
theorem yO(s:St)(a:Int)(x:List Int):VbavaiNeutral.step s [[6,a],x]=Vbavai.step s (.shows a x):=by
 have e:VbavaiNeutral.row [[6,a],x]=6::a::(x.length:Int)::x:=congrArg (6::a::·) (Lp _);have d:decode (6::a::(x.length:Int)::x)=(match cutList ((x.length:Int)::x) with | some (t,[])=>some (Call.shows a t) | _=>none):=rfl
 unfold VbavaiNeutral.step does;rw[e,d,kO]
theorem BE(s:St)(x y:List Int):VbavaiNeutral.step s [[11],x,y]=Vbavai.step s (.same x y):=by
 have e:VbavaiNeutral.row [[11],x,y]=11::(x.length:Int)::(x++((y.length:Int)::y)):=by
  show 11::(x.length:Int)::(x++((y.length:Int)::(y++[])))=_;rw[Lp]
 have d:decode (11::(x.length:Int)::(x++((y.length:Int)::y)))=(match cutList ((x.length:Int)::(x++((y.length:Int)::y))) with | some (t,r)=>(match cutList r with | some (u,[])=>some (Call.same t u) | _=>none) | none=>none):=rfl
 unfold VbavaiNeutral.step does;rw[e,d,ED];dsimp only;rw[kO]
theorem eW{f:Nat}{l:List Int}{cs:List (List (List Int))}(h:PyFlat.calls PyVbavai.shape f l=some cs)(hl:l≠[]) :
  ∃f' c t cs',f=f'+1∧PyFlat.call PyVbavai.shape l=some (c,t)∧PyFlat.calls PyVbavai.shape f' t=some cs'∧cs=c::cs':=by
 match f,l,h,hl with
 | _,[],_,hl=>exact absurd rfl hl
 | 0,_::_,h,_=>simp[PyFlat.calls] at h
 | f+1,p::r,h,_ =>
  unfold PyFlat.calls at h;cases hc:PyFlat.call PyVbavai.shape (p::r) with
  | none=>rw[hc] at h;cases h
  | some ct =>
   obtain⟨c,t⟩:=ct;rw[hc] at h;cases hr:PyFlat.calls PyVbavai.shape f t with
   | none=>simp only[hr] at h;cases h
   | some cs' =>
    simp only[hr] at h;cases h;exact⟨f,c,t,cs',rfl,rfl,hr,rfl⟩
theorem xC{f:Nat}:PyFlat.calls PyVbavai.shape f []=some []:=by cases f<;>rfl
theorem wk{l x t:List Int}(h:PyFlat.row l=some (x,t)):l=(x.length:Int)::(x++t):=by
 unfold PyFlat.row at h;cases l with
 | nil=>cases h
 | cons n r =>
  simp only at h
  by_cases hc:0≤n∧n.toNat≤r.length
  ·rw[if_pos hc] at h;cases h;rw[List.take_append_drop,L9,Nat.min_eq_left hc.2]
   congr 1
   omega
  ·rw[if_neg hc] at h;cases h
inductive zP:List (List Int)->List Int->List Int->Prop
 | node (m:Int) (t:List Int):zP [[0,m]] (0::m::t) t
 | edge (a b:Int) (t:List Int):zP [[1,a,b]] (1::a::b::t) t
 | cut (a b:Int) (t:List Int):zP [[2,a,b]] (2::a::b::t) t
 | marks (a b:Int) (t:List Int):zP [[3,a,b]] (3::a::b::t) t
 | told (a:Int) (t:List Int):zP [[4,a]] (4::a::t) t
 | holds (x t:List Int):zP [[5],x] (5::(x.length:Int)::(x++t)) t
 | shows (a:Int) (x t:List Int):zP [[6,a],x] (6::a::(x.length:Int)::(x++t)) t
 | form (x t:List Int):zP [[7],x] (7::(x.length:Int)::(x++t)) t
 | classes (t:List Int):zP [[8]] (8::t) t
 | apart (a b:Int) (t:List Int):zP [[9,a,b]] (9::a::b::t) t
 | quotient (t:List Int):zP [[10]] (10::t) t
 | same (x y t:List Int):zP [[11],x,y] (11::(x.length:Int)::(x++((y.length:Int)::(y++t)))) t
theorem ni{l t:List Int}{xs:List (List Int)}(h:PyFlat.rows 1 l=some (xs,t)):∃x,xs=[x]∧l=(x.length:Int)::(x++t):=by
 unfold PyFlat.rows at h;cases hr:PyFlat.row l with
 | none=>rw[hr] at h;cases h
 | some p =>
  obtain⟨x,s⟩:=p;rw[hr] at h;simp only[PyFlat.rows] at h;cases h;exact⟨x,rfl,wk hr⟩
theorem CA{l t:List Int}{xs:List (List Int)}(h:PyFlat.rows 2 l=some (xs,t)):∃x y,xs=[x,y]∧l=(x.length:Int)::(x++((y.length:Int)::(y++t))):=by
 unfold PyFlat.rows at h;cases hr:PyFlat.row l with
 | none=>rw[hr] at h;cases h
 | some p =>
  obtain⟨x,s⟩:=p;rw[hr] at h;simp only at h;cases h1:PyFlat.rows 1 s with
  | none=>rw[h1] at h;cases h
  | some p =>
   obtain⟨ys,u⟩:=p;rw[h1] at h;cases h;obtain⟨y,rfl,e⟩:=ni h1;exact⟨x,y,rfl,by rw[wk hr,e]⟩
theorem Hf{l t:List Int}{c:List (List Int)}(h:PyFlat.call PyVbavai.shape l=some (c,t)):zP c l t:=by
 cases l with
 | nil=>cases h
 | cons p r =>
  unfold PyFlat.call at h
  have numb:∀n,PyFlat.call PyVbavai.shape (p::r)=some (c,t)->PyVbavai.shape p=some (n,0)->n≤r.length∧c=[p::r.take n]∧t=r.drop n:=fun n h e=>by
   unfold PyFlat.call at h;simp only[e,PyFlat.rows] at h
   by_cases hl:r.length < n
   ·rw[if_pos hl] at h;cases h
   ·rw[if_neg hl] at h;cases h;exact⟨by omega,rfl,rfl⟩
  have txts:∀n k,PyFlat.call PyVbavai.shape (p::r)=some (c,t)->PyVbavai.shape p=some (n,k)->n≤r.length∧∃xs,c=(p::r.take n)::xs∧PyFlat.rows k (r.drop n)=some (xs,t):=fun n k h e=>by
   unfold PyFlat.call at h;simp only[e] at h
   by_cases hl:r.length < n
   ·rw[if_pos hl] at h;cases h
   ·rw[if_neg hl] at h;cases hr:PyFlat.rows k (r.drop n) with
    | none=>rw[hr] at h;cases h
    | some q=>rw[hr] at h;cases h;exact⟨by omega,_,rfl,rfl⟩
  have one:∀{r:List Int},1≤r.length->∃a u,r=a::u:=fun{r} h=>by cases r with | nil=>simp at h | cons a u=>exact⟨a,u,rfl⟩
  have two:∀{r:List Int},2≤r.length->∃a b u,r=a::b::u:=fun{r} h=>by
   match r,h with
   | [],h=>simp at h
   | [_],h=>simp at h
   | a::b::u,_=>exact⟨a,b,u,rfl⟩
  have h0:PyFlat.call PyVbavai.shape (p::r)=some (c,t):=h
  by_cases e0:p=0
  ·subst e0;obtain⟨l1,rfl,rfl⟩:=numb 1 h0 rfl;obtain⟨a,u,rfl⟩:=one l1;exact .node a u
  by_cases e1:p=1
  ·subst e1;obtain⟨l1,rfl,rfl⟩:=numb 2 h0 rfl;obtain⟨a,b,u,rfl⟩:=two l1;exact .edge a b u
  by_cases e2:p=2
  ·subst e2;obtain⟨l1,rfl,rfl⟩:=numb 2 h0 rfl;obtain⟨a,b,u,rfl⟩:=two l1;exact .cut a b u
  by_cases e3:p=3
  ·subst e3;obtain⟨l1,rfl,rfl⟩:=numb 2 h0 rfl;obtain⟨a,b,u,rfl⟩:=two l1;exact .marks a b u
  by_cases e4:p=4
  ·subst e4;obtain⟨l1,rfl,rfl⟩:=numb 1 h0 rfl;obtain⟨a,u,rfl⟩:=one l1;exact .told a u
  by_cases e5:p=5
  ·subst e5;obtain⟨l1,xs,rfl,hr⟩:=txts 0 1 h0 rfl;obtain⟨x,rfl,e⟩:=ni hr;rw[List.drop_zero] at e;rw[e];exact .holds x t
  by_cases e6:p=6
  ·subst e6;obtain⟨l1,xs,rfl,hr⟩:=txts 1 1 h0 rfl;obtain⟨a,u,rfl⟩:=one l1;obtain⟨x,rfl,e⟩:=ni hr;rw[show(a::u).drop 1=u from rfl] at e;rw[e];exact .shows a x t
  by_cases e7:p=7
  ·subst e7;obtain⟨l1,xs,rfl,hr⟩:=txts 0 1 h0 rfl;obtain⟨x,rfl,e⟩:=ni hr;rw[List.drop_zero] at e;rw[e];exact .form x t
  by_cases e8:p=8
  ·subst e8;obtain⟨l1,rfl,rfl⟩:=numb 0 h0 rfl;exact .classes _
  by_cases e9:p=9
  ·subst e9;obtain⟨l1,rfl,rfl⟩:=numb 2 h0 rfl;obtain⟨a,b,u,rfl⟩:=two l1;exact .apart a b u
  by_cases e10:p=10
  ·subst e10;obtain⟨l1,rfl,rfl⟩:=numb 0 h0 rfl;exact .quotient _
  by_cases e11:p=11
  ·subst e11;obtain⟨l1,xs,rfl,hr⟩:=txts 0 2 h0 rfl;obtain⟨x,y,rfl,e⟩:=CA hr;rw[List.drop_zero] at e;rw[e];exact .same x y t
  have hs:PyVbavai.shape p=none:=by
   unfold PyVbavai.shape;rw[if_neg e0,if_neg e1,if_neg e2,if_neg e3,if_neg e4,if_neg e5,if_neg e6,if_neg e7,if_neg e8,if_neg e9,if_neg e10,if_neg e11]
  dsimp only at h;rw[hs] at h;cases h
theorem Bl{c:List (List Int)}{l t:List Int}(h:zP c l t):PyVbavai.whole c=c:=by cases h<;>rfl
def fok:F->Prop
 | .tru=>True
 | .mark i=>i < 4
 | .not f=>fok f
 | .and f g=>fok f∧fok g
 | .or f g=>fok f∧fok g
 | .next f=>fok f
 | .until_ f g=>fok f∧fok g
 | .within k f g=>k≤12∧fok f∧fok g
 | .ever f=>fok f
theorem AJ{m n:Nat}{w:Bytes}(h:upTo m w=some n):n≤m:=by
 unfold upTo at h
 split at h
 ·dsimp only at h
  split at h
  ·rename_i hle;cases h;exact hle
  ·cases h
 ·cases h
theorem Bt{w:Bytes}{i:Nat}(h:markOf w=some i):i < 4∧w=[109,48+i]:=by
 unfold markOf at h
 split at h
 ·rename_i d
  split at h
  ·rename_i hd
   cases h;exact⟨by omega,by rw[Nat.add_sub_of_le hd.1]⟩
  ·cases h
 ·cases h
theorem Br{w:Bytes}{mk:F->F}(h:oneOf w=some mk){f:F}(hf:fok f):fok (mk f):=by
 unfold oneOf at h
 split at h
 ·cases h;exact hf
 split at h
 ·cases h;exact hf
 split at h
 ·cases h;exact hf
 split at h
 ·cases h;exact⟨trivial,hf⟩
 split at h
 ·cases h;exact hf
 split at h
 ·cases h;exact hf
 split at h
 ·cases h;exact⟨trivial,hf⟩
 ·cases h
def IJ(r:R):Prop:=∀f u,r=.ok (f,u)->fok f
theorem j5{r:R}(h:IJ r){mk:F->F}(hm:∀f,fok f->fok (mk f)):IJ (mapR mk r):=by
 cases r with
 | error e=>intro f u q;cases q
 | ok p=>intro f u q;cases q;exact hm _ (h _ _ rfl)
theorem fV{e:Nat}:IJ (.error e):=fun _ _ q=>by cases q
theorem iz:∀(n m d:Nat)(t:List Bytes),IJ (Vbavai.read n m d t)
 | 0,m,d,t=>by simp only[Vbavai.read];exact fV
 | n+1,0,d,t=>by
  have ih:=iz n 1 d t;cases h:Vbavai.read n 1 d t with
  | error e=>rw[gv h];exact fV
  | ok p =>
   obtain⟨f,u⟩:=p;have hf:=ih f u h;cases u with
   | nil=>rw[gj h];intro g v q;cases q;exact hf
   | cons w r =>
    have i2:=iz n 1 d r
    by_cases h1:w=text "and"
    ·subst h1;rw[gi h];exact j5 i2 fun g hg=>⟨hf,hg⟩
    by_cases h2:w=text "or"
    ·subst h2;rw[gQ h];exact j5 i2 fun g hg=>⟨hf,hg⟩
    by_cases h3:w=text "AU"
    ·subst h3;rw[gO h];exact j5 i2 fun g hg=>⟨⟨hg,hf,hg⟩,hg⟩
    by_cases h4:w=text "EU"
    ·subst h4;cases r with
     | nil=>rw[dS h (fun _ _ q=>by cases q)];exact j5 i2 fun g hg=>⟨hf,hg⟩
     | cons kw r1 =>
      cases hu:upTo 12 kw with
      | none=>rw[dS h (fun _ _ q=>by cases q;exact hu)];exact j5 i2 fun g hg=>⟨hf,hg⟩
      | some m=>rw[gy h hu];exact j5 (iz n 1 d r1) fun g hg=>⟨AJ hu,hf,hg⟩
    rw[fD h h1 h2 h3 h4];intro g v q;cases q;exact hf
 | n+1,m+1,d,t=>by
  have hm:Vbavai.read (n+1) (m+1) d t=Vbavai.read (n+1) 1 d t:=by simp only[Vbavai.read,Nat.add_one_ne_zero,if_false]
  rw[hm];cases t with
  | nil=>rw[nG];exact fV
  | cons w r =>
   by_cases h1:w=text "true"
   ·subst h1;rw[km];intro g v q;cases q;trivial
   by_cases h2:w=[40]
   ·subst h2;cases d with
    | zero=>rw[nP];exact fV
    | succ d =>
     rw[ke];have ih:=iz n 0 d r;cases h:Vbavai.read n 0 d r with
     | error e=>exact fV
     | ok p =>
      obtain⟨f,u⟩:=p;cases u with
      | nil=>exact fV
      | cons v r1 =>
       show IJ (if v=[41] then .ok (f,r1) else .error (v::r1).length)
       by_cases hv:v=[41]
       ·rw[if_pos hv];intro g v q;cases q;exact ih _ _ h
       ·rw[if_neg hv];exact fV
   cases h3:oneOf w with
   | some mk =>
    cases d with
    | zero=>rw[nN n r h3];exact fV
    | succ d=>rw[mW n d r h3];exact j5 (iz n 1 d r) fun g hg=>Br h3 hg
   | none =>
    cases h4:markOf w with
    | none=>rw[iX n d r h1 h2 h3 h4];exact fV
    | some i =>
     have e:Vbavai.read (n+1) 1 d (w::r)=.ok (.mark i,r):=by simp only[Vbavai.read,Nat.one_ne_zero,if_false,if_neg h1,if_neg h2,h3,h4]
     rw[e];intro g v q;cases q;exact(Bt h4).1
theorem wA{b:Bytes}{f:F}(h:readAll b=.ok f):fok f:=by
 unfold readAll at h;simp only at h;have k:=iz (3 * (tokens b []).length+3) 0 DEEP (tokens b [])
 split at h
 ·cases h
 ·rename_i g e;cases h;exact k _ _ e
 ·cases h
def gb(l:List Bytes):Nat:=(l.map fun w=>w.length+1).sum
theorem gF(a b:List Bytes):gb (a++b)=gb a+gb b:=by
 unfold gb;rw[KO,List.sum_append_nat]
theorem dG(w:Bytes)(b:List Bytes):gb (w::b)=w.length+1+gb b:=by
 unfold gb;rw[KR,List.sum_cons]
theorem my:gb []=0:=rfl
theorem qo:∀l:List Bytes,(parted l).length≤gb l
 | []=>KG _
 | [w]=>by rw[dG];show w.length≤_;omega
 | w::v::r=>by
  have ih:=qo (v::r);show(w++(32::parted (v::r))).length≤_;rw[Ky,Kx,dG];omega
theorem EK:∀k:Nat,k≤12->(dec k).length≤2:=by decide +kernel
theorem bz:∀f:F,fok f->gb (wordsOf f)≤10 * size f
 | .tru,_=>by decide
 | .mark i,_=>by simp[wordsOf,gb,size]
 | .not f,h=>by
  have ih:=bz f h;have e:(text "not").length=3:=rfl;simp only[wordsOf,dG,size,e];omega
 | .next f,h=>by
  have ih:=bz f h;have e:(text "EX").length=2:=rfl;simp only[wordsOf,dG,size,e];omega
 | .ever f,h=>by
  have ih:=bz f h;have e:(text "EG").length=2:=rfl;simp only[wordsOf,dG,size,e];omega
 | .and f g,h=>by
  have i1:=bz f h.1;have i2:=bz g h.2;have e:(text "and").length=3:=rfl;simp only[wordsOf,dG,gF,my,size,e,Kx,L0];omega
 | .or f g,h=>by
  have i1:=bz f h.1;have i2:=bz g h.2;have e:(text "or").length=2:=rfl;simp only[wordsOf,dG,gF,my,size,e,Kx,L0];omega
 | .until_ f g,h=>by
  have i1:=bz f h.1;have i2:=bz g h.2;have e:(text "EU").length=2:=rfl;simp only[wordsOf,dG,gF,my,size,e,Kx,L0];omega
 | .within k f g,h=>by
  have i1:=bz f h.2.1;have i2:=bz g h.2.2;have e:(text "EU").length=2:=rfl;have e2:=EK k h.1;simp only[wordsOf,dG,gF,my,size,e,Kx,L0];omega
theorem jU{f:F}(h:fok f):(form f).length≤10 * size f:=Lh (qo _) (bz f h)
end VM
namespace Can
variable{P:Program}{w:World}{K:Frag}{mg:Str->Option Value}{base:Heap}{C CG CF CT CR CY:Addr}
theorem sD:∀c:Nat,c < 128->PySem.Unicode.isDigit c=Vbavai.digit c:=by decide +kernel
open PySem PySem.Spec PyProof.Rows L2 XL
open TL (tl)
structure XW(P:Program)(w:World)(K:Frag)(mg:Str->Option Value)(base:Heap)(C:Addr):Prop where
 ex:∃N fI fd,XC K C N fI "place"∧dh P w K mg base (ic P w C) 1 fI fd ["self","place"] (CS C "place")∧d7 K fd ["self","place"] []∧mg "WrongWord"=some (.ref C)
def xg(C r:Addr)(H:Hp)(E:XK)(n:Nat):Prop:=∀(H':Hp)(dx:Addr),H' dx=some (.xd [("place",nat n)])->SB r H H'->E (.ref C) (some dx) H'
inductive rG(C CR:Addr)(vs:List V)(H:Hp)(Q:VK)(E:XK):Prop
 | mk (r wl:Addr) (ws:List Str) (i:Nat) (x:Str):vs=[.ref r,.str x]->yr CR H r wl ws i->i≤ws.length->ws.length≤1000->(b9 ws i=x->Q .non H)->(b9 ws i≠x->xg C r H E (i+1))->rG C CR vs H Q E
inductive pV(CR:Addr)(vs:List V)(H:Hp)(Q:VK)(z3_:XK):Prop
 | mk (r wl:Addr) (ws:List Str) (i:Nat):vs=[.ref r]->yr CR H r wl ws i->i≤ws.length->ws.length≤1000->(∀c∈tl (b9 ws i),c < 128)->(b9 ws i).length≤1000->(Vbavai.upTo 12 (tl (b9 ws i))=none->Q .non H)->(∀n,Vbavai.upTo 12 (tl (b9 ws i))=some n->∀H':Hp,yr CR H' r wl ws (i+1)->SB r H H'->Q (nat n) H')->pV CR vs H Q z3_
theorem mR{N fI:Addr}{fd:FuncData}(F:yd K "__init__" "WrongWord.__init__" bK fI fd)(X:XC K C N fI "place"):dh P w K mg base (ic P w C) 1 fI fd ["self","place"] (CS C "place"):=by
 refine Gn F oj fun cdv A outer s H vs Q E hr h=>?_;obtain⟨e,oe,ws,y,rfl,he,hc,hd,hdat,k⟩:=h;refine⟨_,ai (EH X (pv 0) (pv 1) rfl),?_⟩;exact⟨_,rfl,_,rfl,e,oe,ws,rfl,he,hc,hd,hdat,k⟩
theorem EZ(F:aK K mg "want" yn)(TR:qm K CR)(W:XW P w K mg base C)(cA:d4 P w K mg base C CR 1 "ahead" ["self"] (fU CR)):aS P w K mg base C 3 "want" ["reader","word"] (rG C CR):=by
 refine F.cal Hy fun f cdv A outer s H vs Q E hr h=>?_;obtain⟨r,wl,ws,i,x,rfl,R,hi,hlen,k1,k2⟩:=h;obtain⟨N,fI,fd,X,G,b,hm⟩:=W.ex;obtain⟨⟨dx,hobj⟩,hw⟩:=id R;refine⟨_,ai (aV (aI qI (fE (pv 0) TR.cl cA (hr.mono (by decide)) ay) (pv 1) (aR _)) (ai (qR X G hr b jC ay rfl hm rfl (dD jA (aG (pv 0) rfl) aA))) aB),?_⟩
 refine⟨_,rfl,r,dx,_,rfl,hobj,rfl,r,wl,ws,i,rfl,R,hi,hlen,_,rfl,rfl,_,rfl,?_⟩;refine de (fun h=>?_) (fun h=>?_)
 ·have hne:b9 ws i≠x:=fun e=>by rw[e] at h;simp at h
  refine⟨_,rfl,r,CR,dx,_,_,rfl,hobj,TR.cl,TR.nt,rfl,_,_,rfl,rfl,fun d hd=>?_⟩;exact k2 hne _ d a9 (.of (ah hd))
 ·have e:b9 ws i=x:=by
   cases q:decide (V.str (b9 ws i)=V.str x) with
   | true=>exact V.str.inj (Lm q)
   | false=>rw[q] at h;exact absurd rfl h
  exact k1 e
theorem Ij{x:Str}(h:∀c∈tl x,c < 128):Txt.isdigit x=(decide (0 < x.length)&&(tl x).all Vbavai.digit):=by
 unfold PySem.Txt.isdigit
 congr 1
 rw[←Array.all_toList];show(tl x).all Unicode.isDigit=_;generalize tl x=l at h
 induction l with
 | nil=>rfl
 | cons c r ih =>
  rw[List.all_cons,List.all_cons,sD c (h c (by simp)),ih fun c' hc=>h c' (by simp[hc])]
theorem Dr(l:List Nat):l.foldl (fun n c=>10 * n+(c - 48)) 0=NumText.digitsVal l:=by
 unfold NumText.digitsVal
 congr 1
 funext n c
 rw[Nat.mul_comm]
theorem sQ(F:aK K mg "read_bound" iW)(T:j3 mg)(TR:qm K CR)(TT:y9 K mg)(cA:d4 P w K mg base C CR 1 "ahead" ["self"] (fU CR))(cT:d4 P w K mg base C CR 1 "take" ["self"] (jO CR)) :
  aS P w K mg base C 2 "read_bound" ["reader"] (pV CR):=by
 refine F.cal mP fun f cdv A outer s H vs Q E hr h=>?_;obtain⟨r,wl,ws,i,rfl,R,hi,hlen,hasc,hwl,k1,k2⟩:=h;have nd:=mP.nd;obtain⟨⟨dx,hobj⟩,hw⟩:=id R;obtain⟨tb,hB⟩:=TT.bound
 refine⟨_,ae (aE (i:=1) nd rfl (Or.inl rfl) (fE (pv 0) TR.cl cA hr ay))
  (ae (aV (PW.pt (qf (aI rE (aQ vV rfl T.len boot_len (a8 (pv 1) aa)) aA (aR _)) (lA (dP (bQ (Iq PySem.F.slot_str_isdigit PySem.F.type_str_isdigit zH (pv 1))))))) (ai (aw nY)) aB)
  (ae (aE (i:=2) nd rfl (Or.inl rfl) (ij vB rfl T.int boot_int (a8 (pv 1) aa)))
  (ae (aV (aI rE (pv 2) (bo (v:=.int 12) rfl hB ⟨tb,rfl⟩) (aR _)) (ai (aw nY)) aB)
  (ae (bH (fE (pv 0) TR.cl cT hr ay)) (ai (aw (pv 2))))))),?_⟩
 refine⟨_,rfl,r,dx,_,rfl,hobj,rfl,r,wl,ws,i,rfl,R,hi,hlen,?_⟩;refine⟨_,rfl,_,rfl,LR (br (by omega)),_,_,rfl,rfl,_,rfl,?_⟩
 have wl2:(b9 ws i).length=(tl (b9 ws i)).length:=TL.gp _;refine de (fun h=>?_) (fun h=>?_)
 ·have h2:(2:Int) < ((b9 ws i).length:Int):=Lm h;refine k1 ?_;unfold Vbavai.upTo;rw[if_neg (fun z=>by omega)]
 have le2:(b9 ws i).length≤2:=by
  have:¬((2:Int) < ((b9 ws i).length:Int)):=fun z=>h (Ll z);omega
 refine⟨_,rfl,⟨_,rfl⟩,_,rfl,rfl,trivial,_,rfl,?_⟩;rw[Ij hasc];refine de (fun h=>?_) (fun h=>?_)
 ·refine k1 ?_;unfold Vbavai.upTo;rw[if_neg (fun z=>by rw[z.1,Ll (show 0 < (b9 ws i).length by omega)] at h;cases h)]
 have hall:(decide (0 < (b9 ws i).length)&&(tl (b9 ws i)).all Vbavai.digit)=true:=by
  cases q:(decide (0 < (b9 ws i).length)&&(tl (b9 ws i)).all Vbavai.digit) with
  | true=>rfl
  | false=>rw[q] at h;exact absurd rfl h
 rw[L7] at hall;have pos:0 < (b9 ws i).length:=Lm hall.1
 have dig:NumText.AllDigits (tl (b9 ws i)):=fun c hc=>by
  have:=List.all_eq_true.mp hall.2 c hc;unfold Vbavai.digit at this;rw[L7] at this;have a:=Lm this.1;have b:=Lm this.2;omega
 have hint:intText? (b9 ws i)=some ((NumText.digitsVal (tl (b9 ws i)):Nat):Int):=intText_digits dig (fun z=>by have z':tl (b9 ws i)=[]:=z;rw[z'] at wl2;rw[wl2] at pos;exact absurd pos (by decide)) (by omega)
 have hup:Vbavai.upTo 12 (tl (b9 ws i))=if NumText.digitsVal (tl (b9 ws i))≤12 then some (NumText.digitsVal (tl (b9 ws i))) else none:=by
  unfold Vbavai.upTo;rw[if_pos ⟨hall.2,by omega,by omega⟩]
  dsimp only;rw[Dr]
 refine⟨_,rfl,_,_,rfl,hint,by omega,?_⟩
 refine⟨_,rfl,_,_,rfl,rfl,_,rfl,?_⟩;refine de (fun h=>?_) (fun h=>?_)
 ·have:(12:Int) < ((NumText.digitsVal (tl (b9 ws i)):Nat):Int):=Lm h;refine k1 ?_;rw[hup,if_neg (by omega)]
 ·have:¬((12:Int) < ((NumText.digitsVal (tl (b9 ws i)):Nat):Int)):=fun z=>h (Ll z);rw[if_pos (by omega)] at hup
  exact⟨_,rfl,r,dx,_,rfl,hobj,rfl,r,wl,ws,i,rfl,R,fun H' R' sb=>⟨_,rfl,k2 _ hup H' R' sb⟩⟩
end Can
namespace Can
open PySem PySem.Spec PyProof.Rows L2 XL
open TL (tl)
variable{P:Program}{w:World}{K:Frag}{mg:Str->Option Value}{base:Heap}{C CG CF CT CR CY:Addr}
theorem bX{w k:Str}{t:List Nat}(e:tl w=t.map VM.ny)(hp:(tl k).all VM.j0=true):w=k↔t=tl k:=by
 constructor
 ·intro h;subst h;exact(VM.j6 hp).mp e.symm
 ·intro h;refine TL.Ey (e.trans ?_);exact(VM.j6 hp).mpr h
theorem nu{w:Str}{l:List Str}:nI (.str w) (l.map V.str)=true↔w∈l:=by
 unfold nI;rw[List.any_map,List.any_eq_true]
 constructor
 ·rintro⟨x,hx,e⟩;have:(x==w)=true:=e;rw[←eq_of_beq this];exact hx
 ·intro h;exact⟨w,h,(by show(w==w)=true;exact beq_self_eq_true w)⟩
theorem iO{w:Str}{l:List Str}(h:w∉l):nI (.str w) (l.map V.str)=false:=by
 cases q:nI (.str w) (l.map V.str) with
 | false=>rfl
 | true=>exact absurd (nu.mp q) h
abbrev wL:List Str:=["true","m0","m1","m2","m3"]
abbrev xH:List Str:=["not","EX","AX","EF","AF","EG","AG"]
abbrev Hn:List Str:=["and","or","EU","AU"]
inductive Wk(CF:Addr)(t:List Nat)(w:Str):Prop
 | leafT (h:w="true") (e:t=Vbavai.text "true")
 | leafM (i:Nat) (hi:i < 4) (h:w=fQ i) (hl:w∈wL) (e:t=[109,48+i])
 | par (h:w="(") (e:t=[40])
 | pre (mk:Fm->Fm) (g:Str) (h:B4 CF w mk g) (hp:w∈xH) (e:Vbavai.oneOf t=some mk)
 | other (h1:w∉wL) (h2:w≠"(") (h3:w∉xH) (e1:t≠Vbavai.text "true") (e2:t≠[40]) (e3:Vbavai.oneOf t=none) (e4:Vbavai.markOf t=none)
theorem xS{CF:Addr}{w:Str}{t:List Nat}(e:tl w=t.map VM.ny):Wk CF t w:=by
 by_cases h0:w="true"
 ·exact .leafT h0 ((bX e (by decide)).mp h0)
 by_cases h1:w=fQ 0
 ·exact .leafM 0 (by decide) h1 (by rw[h1];decide) ((bX e (by decide)).mp h1)
 by_cases h2:w=fQ 1
 ·exact .leafM 1 (by decide) h2 (by rw[h2];decide) ((bX e (by decide)).mp h2)
 by_cases h3:w=fQ 2
 ·exact .leafM 2 (by decide) h3 (by rw[h3];decide) ((bX e (by decide)).mp h3)
 by_cases h4:w=fQ 3
 ·exact .leafM 3 (by decide) h4 (by rw[h4];decide) ((bX e (by decide)).mp h4)
 by_cases h5:w="("
 ·exact .par h5 ((bX e (by decide)).mp h5)
 have one:∀(k:Str)(mk:Fm->Fm)(g:Str),B4 CF k mk g->k∈xH->(tl k).all VM.j0=true->Vbavai.oneOf (tl k)=some mk->w=k->Wk CF t w:=fun k mk g p hm ha ho hw=>by
  have:=(bX e ha).mp hw;subst hw;exact .pre mk g p hm (by rw[this];exact ho)
 by_cases p0:w="not"
 ·exact one "not" _ _ .not (by decide) (by decide) rfl p0
 by_cases p1:w="EX"
 ·exact one "EX" _ _ .ex (by decide) (by decide) rfl p1
 by_cases p2:w="AX"
 ·exact one "AX" _ _ .ax (by decide) (by decide) rfl p2
 by_cases p3:w="EF"
 ·exact one "EF" _ _ .ef (by decide) (by decide) rfl p3
 by_cases p4:w="AF"
 ·exact one "AF" _ _ .af (by decide) (by decide) rfl p4
 by_cases p5:w="EG"
 ·exact one "EG" _ _ .eg (by decide) (by decide) rfl p5
 by_cases p6:w="AG"
 ·exact one "AG" _ _ .ag (by decide) (by decide) rfl p6
 have no:∀k:Str,(tl k).all VM.j0=true->w≠k->t≠tl k:=fun k ha hw z=>hw ((bX e ha).mpr z);refine .other ?_ h5 ?_ (no "true" (by decide) h0) (no "(" (by decide) h5) ?_ ?_
 ·intro hm;simp only[wL,List.mem_cons,LJ,or_false] at hm;rcases hm with z | z | z | z | z
  ·exact h0 z
  ·exact h1 (z.trans (by decide))
  ·exact h2 (z.trans (by decide))
  ·exact h3 (z.trans (by decide))
  ·exact h4 (z.trans (by decide))
 ·intro hm;simp only[xH,List.mem_cons,LJ,or_false] at hm;rcases hm with z | z | z | z | z | z | z
  ·exact p0 z
  ·exact p1 z
  ·exact p2 z
  ·exact p3 z
  ·exact p4 z
  ·exact p5 z
  ·exact p6 z
 ·refine VM.yG fun x hx=>?_;simp only[List.mem_cons,LJ,or_false] at hx;rcases hx with rfl | rfl | rfl | rfl | rfl | rfl | rfl
  ·exact no "not" (by decide) p0
  ·exact no "EX" (by decide) p1
  ·exact no "AX" (by decide) p2
  ·exact no "EF" (by decide) p3
  ·exact no "AF" (by decide) p4
  ·exact no "EG" (by decide) p5
  ·exact no "AG" (by decide) p6
 ·refine VM.wB fun i hi=>?_
  match i,hi with
  | 0,_=>exact no (fQ 0) (by decide) h1
  | 1,_=>exact no (fQ 1) (by decide) h2
  | 2,_=>exact no (fQ 2) (by decide) h3
  | 3,_=>exact no (fQ 3) (by decide) h4
inductive Jk(t:List Nat)(w:Str):Prop
 | and (h:w="and") (e:t=Vbavai.text "and")
 | or (h:w="or") (e:t=Vbavai.text "or")
 | au (h:w="AU") (e:t=Vbavai.text "AU")
 | eu (h:w="EU") (e:t=Vbavai.text "EU")
 | other (h:w∉Hn) (e1:t≠Vbavai.text "and") (e2:t≠Vbavai.text "or") (e3:t≠Vbavai.text "AU") (e4:t≠Vbavai.text "EU")
theorem GA{w:Str}{t:List Nat}(e:tl w=t.map VM.ny):Jk t w:=by
 by_cases h0:w="and"
 ·exact .and h0 ((bX e (by decide)).mp h0)
 by_cases h1:w="or"
 ·exact .or h1 ((bX e (by decide)).mp h1)
 by_cases h2:w="AU"
 ·exact .au h2 ((bX e (by decide)).mp h2)
 by_cases h3:w="EU"
 ·exact .eu h3 ((bX e (by decide)).mp h3)
 have no:∀k:Str,(tl k).all VM.j0=true->w≠k->t≠tl k:=fun k ha hw z=>hw ((bX e ha).mpr z);refine .other ?_ (no "and" (by decide) h0) (no "or" (by decide) h1) (no "AU" (by decide) h2) (no "EU" (by decide) h3)
 intro hm;simp only[Hn,List.mem_cons,LJ,or_false] at hm;rcases hm with z | z | z | z
 ·exact h0 z
 ·exact h1 z
 ·exact h3 z
 ·exact h2 z
theorem E3(t:List Nat):Vbavai.upTo 12 (t.map VM.ny)=Vbavai.upTo 12 t:=by
 by_cases h:t.all Vbavai.digit=true
 ·rw[VM.jJ h]
 ·unfold Vbavai.upTo;rw[if_neg (fun z=>h (by rw[←VM.sy];exact z.1)),if_neg (fun z=>h z.1)]
theorem Hc(c:Nat):VM.ny c < 128:=by
 unfold VM.ny
 by_cases h:(VM.Cb c||c==40||c==41)=true
 ·rw[if_pos h];unfold VM.Cb at h;simp at h;omega
 ·rw[if_neg h];decide
structure Jo(ws:List Str)(ts:List (List Nat)):Prop where
 ws:WS ws ts
 len:ts.length≤400
 wl:∀t∈ts,t.length≤400
theorem Jo.asc{ws:List Str}{ts:List (List Nat)}(h:Jo ws ts)(i:Nat):(∀c∈tl (b9 ws i),c < 128)∧(b9 ws i).length≤1000:=by
 by_cases hi:i < ts.length
 ·obtain⟨w,hw,e⟩:=h.ws.get (Kz hi);rw[d8 hw,TL.gp,e];refine⟨fun c hc=>?_,?_⟩
  ·obtain⟨d,_,rfl⟩:=Ls.mp hc;exact Hc d
  ·rw[Kv];have:=h.wl _ (List.getElem_mem hi);omega
 ·have:b9 ws i="":=by
   unfold b9;rw[KP,L8 (by rw[h.ws.len];omega)]
   rfl
  rw[this];have e:tl ("":Str)=[]:=by decide
  exact⟨fun c hc=>(by rw[e] at hc;cases hc),by decide⟩
theorem da.sb{CF CR:Addr}{H H':Hp}{r wl:Addr}{ws:List Str}{i:Nat}{p:Addr}{k:Str}{qs:List Addr}{bv:V}{n:Nat}(s:SB r H H')(R:yr CR H r wl ws i)(h:da CF H p k qs bv n):da CF H' p k qs bv n:=by
 obtain⟨dx,l,h1,h2⟩:=h;obtain⟨dr,h3⟩:=R.obj;refine⟨dx,l,s _ _ h1 (cK h1 h3 fun z=>?_),s _ _ h2 (cK h2 h3 (by intro z;cases z))⟩
 injection z with _ _ z
 have:(("kind":Str),V.str k)=(("words":Str),V.ref wl):=by injection z
 cases this
theorem bx.sb{CF CR:Addr}{H H':Hp}{r wl:Addr}{ws:List Str}{i:Nat}(s:SB r H H')(R:yr CR H r wl ws i):∀{f:Fm}{p:Addr},bx CF H f p->bx CF H' f p
 | .tru,_,h=>da.sb s R h
 | .mark _,_,h=>⟨h.1,da.sb s R h.2⟩
 | .not _,_,⟨q,h,a⟩=>⟨q,h.sb s R,bx.sb s R a⟩
 | .and _ _,_,⟨q,t,h,a,b⟩=>⟨q,t,h.sb s R,bx.sb s R a,bx.sb s R b⟩
 | .or _ _,_,⟨q,t,h,a,b⟩=>⟨q,t,h.sb s R,bx.sb s R a,bx.sb s R b⟩
 | .next _,_,⟨q,h,a⟩=>⟨q,h.sb s R,bx.sb s R a⟩
 | .until_ _ _,_,⟨q,t,h,a,b⟩=>⟨q,t,h.sb s R,bx.sb s R a,bx.sb s R b⟩
 | .within _ _ _,_,⟨k,q,t,h,a,b⟩=>⟨k,q,t,h.sb s R,bx.sb s R a,bx.sb s R b⟩
 | .ever _,_,⟨q,h,a⟩=>⟨q,h.sb s R,bx.sb s R a⟩
inductive gf(C CR CF:Addr)(m d:Nat)(vs:List V)(H:Hp)(Q:VK)(E:XK):Prop
 | mk (r wl:Addr) (ws:List Str) (ts:List (List Nat)) (i n:Nat):vs=[.ref r,.int (41 - (d:Int))]->yr CR H r wl ws i->Jo ws ts->i≤ts.length->2 * (ts.length - i)+2 - m≤n->(∀f u,Vbavai.read n m d (ts.drop i)=.ok (f,u)->∀(H':Hp)(p:Addr),bx CF H' f p->yr CR H' r wl ws (ts.length - u.length)->SB r H H'->Q (.ref p) H')->(∀e,Vbavai.read n m d (ts.drop i)=.error e->xg C r H E (ts.length+1 - e))->gf C CR CF m d vs H Q E
theorem xg.sb{C r:Addr}{H H1:Hp}{E:XK}{n:Nat}(h:xg C r H E n)(s:SB r H H1):xg C r H1 E n:=fun H' dx e s'=>h H' dx e (s.trans s')
theorem pL{ts:List (List Nat)}{i:Nat}(h:i < ts.length):ts.drop i=ts[i]::ts.drop (i+1):=List.drop_eq_getElem_cons h
theorem nj{ts:List (List Nat)}{j:Nat}{v:List Nat}{r1:List (List Nat)}(h:v::r1=ts.drop j):ts[j]?=some v:=by
 have e:(ts.drop j)[0]?=some v:=by rw[←h];rfl
 rwa [List.getElem?_drop,Nat.add_zero] at e
theorem ku{a b:Nat}(h:b≤a):a - (a - b)=b:=by omega
theorem sv(F:aK K mg "read_part" fz)(TR:qm K CR)(TT:y9 K mg)(M:yQ P w K mg base C CF)(W:XW P w K mg base C)(cA:d4 P w K mg base C CR 1 "ahead" ["self"] (fU CR))(cT:d4 P w K mg base C CR 1 "take" ["self"] (jO CR)) :
  aS P w K mg base C 7 "read_part" ["reader","deep"] (gf C CR CF 1 0):=by
 refine F.cal (k:=6) gL fun fa cdv A outer s H vs Q E hr h=>?_;obtain⟨r,wl,ws,ts,i,n,rfl,R,WO,hi,hn,k1,k2⟩:=h;have nd:=gL.nd;obtain⟨⟨dx,hobj⟩,hw⟩:=id R;obtain⟨aL,hL,hLs⟩:=TT.leaves;obtain⟨aP,hP,hPs⟩:=TT.prefixes;obtain⟨td,hD⟩:=TT.deepest;obtain⟨Nn,fI,fd,X,G,b,hm⟩:=W.ex;have hr1:=hr.mono (show 1≤6 by omega)
 have hr2:=hr.mono (show 2≤6 by omega)
 have hr6:=hr.mono (show 6≤6 by omega)
 have gb:ws.length=ts.length:=WO.ws.len;have hlen:ws.length≤1000:=by have:=WO.len;omega
 refine⟨_,ae (aE (i:=2) nd rfl (Or.inl rfl) (fE (pv 0) TR.cl cA hr1 ay))
  (ae (aV (aI ee (pv 2) (bo (v:=.ref aL) rfl hL rfl) rfl) (ae (bH (fE (pv 0) TR.cl cT hr1 ay)) (ai (aw (dW M hr2 rfl (a8 (pv 2) (a8 (aN aa) aa)))))) aB)
  (ae (aE (i:=3) nd rfl (Or.inl rfl) (Ci (eE bV (pv 2) bf (aR _)) (rM (eE ee (pv 2) (bo (v:=.ref aP) rfl hP rfl) rfl))))
  (ae (aV (PW.pt (qf (dP (bQ (pv 3))) (lA (aI rE (pv 1) (bo (v:=.int 40) rfl hD ⟨td,rfl⟩) (aR _))))) (ai (qR X G hr2 b jC ay rfl hm rfl (dD jA (aG (pv 0) rfl) aA))) aB)
  B7))),?_⟩
 refine⟨_,rfl,r,dx,_,rfl,hobj,rfl,r,wl,ws,i,rfl,R,by omega,hlen,?_⟩
 obtain⟨n,rfl⟩:∃n',n=n'+1:=⟨n - 1,by omega⟩
 have bad:∀e:Nat,Vbavai.read (n+1) 1 0 (ts.drop i)=.error e->ts.length+1 - e=i+1->∀d,H d=none->E (.ref C) (some d) (upd H d (.xd [("place",.int ((i:Int)+1))])):=fun e he hp d hd=>by
  have z:=k2 e he;rw[hp] at z;exact z _ d a9 (.of (ah hd))
 by_cases hlt:i < ts.length
 ·obtain⟨wd,hwd,ew⟩:=WO.ws.get (Kz hlt);rw[d8 hwd];have hdr:=pL hlt;have ul:(ts.drop (i+1)).length=ts.length - (i+1):=List.length_drop;rcases xS (CF:=CF) ew with ⟨h,e⟩ | ⟨j,hj,h,hl,e⟩ | ⟨h,e⟩ | ⟨mk,g,h,hp,e⟩ | ⟨h1,h2,h3,e1,e2,e3,e4⟩
  ·subst h;have hrd:Vbavai.read (n+1) 1 0 (ts.drop i)=.ok (.tru,ts.drop (i+1)):=by rw[hdr,e];exact VM.km ..
   refine⟨_,rfl,aL,_,rfl,.inr (hLs _),rfl,rfl,_,rfl,gz rfl ?_⟩;refine⟨_,rfl,r,dx,_,rfl,hobj,rfl,r,wl,ws,i,rfl,R,fun H1 R1 sb1=>?_⟩;refine⟨_,rfl,KZ _,fun l hl x d nx ndx ne=>?_⟩;have s1:aD H1 (upd H1 l (.lst [])):=ah hl;refine bt (qs:=[]) (ns:=[]) nx ndx ne a9 rfl (KZ _) (fun i q' n e=>by simp at e) fun H' hx sm=>⟨rfl,k1 _ _ hrd H' x hx ?_ (sb1.trans (.of (s1.trans sm)))⟩
   rw[ul,ku hlt];exact(R1.same s1).same sm
  ·have hrd:Vbavai.read (n+1) 1 0 (ts.drop i)=.ok (.mark j,ts.drop (i+1)):=by rw[hdr,e];exact VM.tW _ _ _ hj
   refine⟨_,rfl,aL,_,rfl,.inr (hLs _),rfl,rfl,_,rfl,gz (nu.mpr hl) ?_⟩;refine⟨_,rfl,r,dx,_,rfl,hobj,rfl,r,wl,ws,i,rfl,R,fun H1 R1 sb1=>?_⟩;refine⟨_,rfl,KZ _,fun l hl x d nx ndx ne=>?_⟩;have s1:aD H1 (upd H1 l (.lst [])):=ah hl;refine bt (qs:=[]) (ns:=[]) nx ndx ne a9 rfl (KZ _) (fun i q' n e=>by simp at e) fun H' hx sm=>⟨rfl,k1 _ _ hrd H' x ⟨hj,by rw[←h];exact hx⟩ ?_ (sb1.trans (.of (s1.trans sm)))⟩
   rw[ul,ku hlt];exact(R1.same s1).same sm
  ·subst h;have hrd:Vbavai.read (n+1) 1 0 (ts.drop i)=.error ((ts.drop (i+1)).length+1):=by rw[hdr,e];exact VM.nP ..
   refine⟨_,rfl,aL,_,rfl,.inr (hLs _),rfl,rfl,_,rfl,bC rfl ?_⟩;refine⟨_,rfl,rfl,_,rfl,gz (by decide) ?_⟩
   refine⟨_,rfl,_,rfl,bC rfl ⟨_,rfl,_,_,rfl,rfl,_,rfl,gz (by decide) ?_⟩⟩
   exact⟨_,rfl,r,CR,dx,_,_,rfl,hobj,TR.cl,TR.nt,rfl,_,_,rfl,rfl,bad _ hrd (by rw[ul];omega)⟩
  ·have hrd:Vbavai.read (n+1) 1 0 (ts.drop i)=.error ((ts.drop (i+1)).length+1):=by rw[hdr];exact VM.nN _ _ e
   have nl:wd∉wL:=by cases h<;>decide
   have np:decide (V.str wd=V.str "(")=false:=by cases h<;>decide
   refine⟨_,rfl,aL,_,rfl,.inr (hLs _),rfl,rfl,_,rfl,bC (iO nl) ?_⟩;refine⟨_,rfl,rfl,_,rfl,bC np ⟨_,rfl,aP,_,rfl,.inr (hPs _),rfl,rfl,?_⟩⟩;refine⟨_,rfl,_,rfl,bC (by show(!nI (.str wd) (xH.map V.str))=false;rw[nu.mpr hp];rfl) ⟨_,rfl,_,_,rfl,rfl,_,rfl,gz (by decide) ?_⟩⟩
   exact⟨_,rfl,r,CR,dx,_,_,rfl,hobj,TR.cl,TR.nt,rfl,_,_,rfl,rfl,bad _ hrd (by rw[ul];omega)⟩
  ·have hrd:Vbavai.read (n+1) 1 0 (ts.drop i)=.error ((ts.drop (i+1)).length+1):=by rw[hdr];exact VM.iX _ _ _ e1 e2 e3 e4
   have np:decide (V.str wd=V.str "(")=false:=Ln fun z=>h2 (V.str.inj z)
   refine⟨_,rfl,aL,_,rfl,.inr (hLs _),rfl,rfl,_,rfl,bC (iO h1) ?_⟩;refine⟨_,rfl,rfl,_,rfl,bC np ⟨_,rfl,aP,_,rfl,.inr (hPs _),rfl,rfl,?_⟩⟩;refine⟨_,rfl,_,rfl,gz (by show(!nI (.str wd) (xH.map V.str))=true;rw[iO h3];rfl) ?_⟩
   exact⟨_,rfl,r,CR,dx,_,_,rfl,hobj,TR.cl,TR.nt,rfl,_,_,rfl,rfl,bad _ hrd (by rw[ul];omega)⟩
 ·have e:i=ts.length:=by omega
  have hdr:ts.drop i=[]:=List.drop_eq_nil_of_le (by omega)
  have hrd:Vbavai.read (n+1) 1 0 (ts.drop i)=.error 0:=by rw[hdr];exact VM.nG ..
  rw[show b9 ws i="" by rw[e,←gb];exact dZ]
  refine⟨_,rfl,aL,_,rfl,.inr (hLs _),rfl,rfl,_,rfl,bC rfl ?_⟩;refine⟨_,rfl,rfl,_,rfl,bC (by decide) ⟨_,rfl,aP,_,rfl,.inr (hPs _),rfl,rfl,?_⟩⟩
  refine⟨_,rfl,_,rfl,gz rfl ?_⟩;exact⟨_,rfl,r,CR,dx,_,_,rfl,hobj,TR.cl,TR.nt,rfl,_,_,rfl,rfl,bad _ hrd (by omega)⟩
theorem vI(F:aK K mg "read_part" fz)(TR:qm K CR)(TT:y9 K mg)(M:yQ P w K mg base C CF)(W:XW P w K mg base C)(cA:d4 P w K mg base C CR 1 "ahead" ["self"] (fU CR))(cT:d4 P w K mg base C CR 1 "take" ["self"] (jO CR))(cP:aS P w K mg base C 6 "prefixed" ["word","inner"] (Ar CF))(cW:aS P w K mg base C 3 "want" ["reader","word"] (rG C CR)){d:Nat}
  (ihP:aS P w K mg base C (2 * d+7) "read_part" ["reader","deep"] (gf C CR CF 1 d))(ihF:aS P w K mg base C (2 * d+8) "read_formula" ["reader","deep"] (gf C CR CF 0 d)) :
  aS P w K mg base C (2 * (d+1)+7) "read_part" ["reader","deep"] (gf C CR CF 1 (d+1)):=by
 refine F.cal (k:=2 * d+8) gL fun fa cdv A outer s H vs Q E hr h=>?_;obtain⟨r,wl,ws,ts,i,n,rfl,R,WO,hi,hn,k1,k2⟩:=h;have nd:=gL.nd;obtain⟨⟨dx,hobj⟩,hw⟩:=id R;obtain⟨aL,hL,hLs⟩:=TT.leaves;obtain⟨aP,hP,hPs⟩:=TT.prefixes;obtain⟨td,hD⟩:=TT.deepest;obtain⟨Nn,fI,fd,X,G,b,hm⟩:=W.ex;have hr1:=hr.mono (show 1≤2 * d+8 by omega)
 have hr2:=hr.mono (show 2≤2 * d+8 by omega)
 have hr6:=hr.mono (show 6≤2 * d+8 by omega)
 have gb:ws.length=ts.length:=WO.ws.len;have hlen:ws.length≤1000:=by have:=WO.len;omega
 refine⟨_,ae (aE (i:=2) nd rfl (Or.inl rfl) (fE (pv 0) TR.cl cA hr1 ay))
  (ae (aV (aI ee (pv 2) (bo (v:=.ref aL) rfl hL rfl) rfl) (ae (bH (fE (pv 0) TR.cl cT hr1 ay)) (ai (aw (dW M hr2 rfl (a8 (pv 2) (a8 (aN aa) aa)))))) aB)
  (ae (aE (i:=3) nd rfl (Or.inl rfl) (Ci (eE bV (pv 2) bf (aR _)) (rM (eE ee (pv 2) (bo (v:=.ref aP) rfl hP rfl) rfl))))
  (ae (aV (PW.pt (qf (dP (bQ (pv 3))) (lA (aI rE (pv 1) (bo (v:=.int 40) rfl hD ⟨td,rfl⟩) (aR _))))) (ai (qR X G hr2 b jC ay rfl hm rfl (dD jA (aG (pv 0) rfl) aA))) aB)
  (ae (bH (fE (pv 0) TR.cl cT hr1 ay))
  (ae (aV (aI ee (pv 2) (bo (v:=.ref aP) rfl hP rfl) rfl) (ai (aw (aj cP hr6 rfl ay (a8 (pv 2) (a8 (aj ihP (hr.mono (by omega)) rfl bb (a8 (pv 0) (a8 (dD jA (pv 1) aA) aa))) aa))))) aB)
  (ae (aE (i:=4) nd rfl (Or.inl rfl) (aj ihF (hr.mono (by omega)) rfl bb (a8 (pv 0) (a8 (dD jA (pv 1) aA) aa))))
  (ae (bH (aj cW (hr.mono (by omega)) rfl bb (a8 (pv 0) (a8 bf aa))))
  (ae (bH (fE (pv 0) TR.cl cT hr1 ay)) (ai (aw (pv 4))))))))))),?_⟩
 refine⟨_,rfl,r,dx,_,rfl,hobj,rfl,r,wl,ws,i,rfl,R,by omega,hlen,?_⟩
 obtain⟨n,rfl⟩:∃n',n=n'+1:=⟨n - 1,by omega⟩
 have bad:∀e:Nat,Vbavai.read (n+1) 1 (d+1) (ts.drop i)=.error e->ts.length+1 - e=i+1->∀d,H d=none->E (.ref C) (some d) (upd H d (.xd [("place",.int ((i:Int)+1))])):=fun e he hp d hd=>by
  have z:=k2 e he;rw[hp] at z;exact z _ d a9 (.of (ah hd))
 by_cases hlt:i < ts.length
 ·obtain⟨wd,hwd,ew⟩:=WO.ws.get (Kz hlt);rw[d8 hwd];have hdr:=pL hlt;have ul:(ts.drop (i+1)).length=ts.length - (i+1):=List.length_drop;rcases xS (CF:=CF) ew with ⟨h,e⟩ | ⟨j,hj,h,hl,e⟩ | ⟨h,e⟩ | ⟨mk,g,h,hp,e⟩ | ⟨h1,h2,h3,e1,e2,e3,e4⟩
  ·subst h;have hrd:Vbavai.read (n+1) 1 (d+1) (ts.drop i)=.ok (.tru,ts.drop (i+1)):=by rw[hdr,e];exact VM.km ..
   refine⟨_,rfl,aL,_,rfl,.inr (hLs _),rfl,rfl,_,rfl,gz rfl ?_⟩;refine⟨_,rfl,r,dx,_,rfl,hobj,rfl,r,wl,ws,i,rfl,R,fun H1 R1 sb1=>?_⟩;refine⟨_,rfl,KZ _,fun l hl x d nx ndx ne=>?_⟩;have s1:aD H1 (upd H1 l (.lst [])):=ah hl;refine bt (qs:=[]) (ns:=[]) nx ndx ne a9 rfl (KZ _) (fun i q' n e=>by simp at e) fun H' hx sm=>⟨rfl,k1 _ _ hrd H' x hx ?_ (sb1.trans (.of (s1.trans sm)))⟩
   rw[ul,ku hlt];exact(R1.same s1).same sm
  ·have hrd:Vbavai.read (n+1) 1 (d+1) (ts.drop i)=.ok (.mark j,ts.drop (i+1)):=by rw[hdr,e];exact VM.tW _ _ _ hj
   refine⟨_,rfl,aL,_,rfl,.inr (hLs _),rfl,rfl,_,rfl,gz (nu.mpr hl) ?_⟩;refine⟨_,rfl,r,dx,_,rfl,hobj,rfl,r,wl,ws,i,rfl,R,fun H1 R1 sb1=>?_⟩;refine⟨_,rfl,KZ _,fun l hl x d nx ndx ne=>?_⟩;have s1:aD H1 (upd H1 l (.lst [])):=ah hl;refine bt (qs:=[]) (ns:=[]) nx ndx ne a9 rfl (KZ _) (fun i q' n e=>by simp at e) fun H' hx sm=>⟨rfl,k1 _ _ hrd H' x ⟨hj,by rw[←h];exact hx⟩ ?_ (sb1.trans (.of (s1.trans sm)))⟩
   rw[ul,ku hlt];exact(R1.same s1).same sm
  ·subst h;refine⟨_,rfl,aL,_,rfl,.inr (hLs _),rfl,rfl,_,rfl,bC rfl ?_⟩;refine⟨_,rfl,rfl,_,rfl,gz (by decide) ?_⟩
   refine⟨_,rfl,_,rfl,bC rfl ⟨_,rfl,_,_,rfl,rfl,_,rfl,bC (Ln (by omega)) ?_⟩⟩
   refine⟨_,rfl,r,dx,_,rfl,hobj,rfl,r,wl,ws,i,rfl,R,fun H1 R1 sb1=>?_⟩;refine⟨_,rfl,aP,_,rfl,.inr (hPs _),rfl,rfl,_,rfl,bC rfl ?_⟩;refine⟨_,rfl,_,rfl,_,_,rfl,rfl,r,wl,ws,ts,i+1,n,?_,R1,WO,hlt,by omega,fun f u hu H2 p hf R2 sb2=>?_,fun e2 he=>?_⟩
   ·show [V.ref r,V.int (41 - ((d+1:Nat):Int)+1)]=_;rw[show(41:Int) - ((d+1:Nat):Int)+1=41 - (d:Int) by omega]
   ·obtain⟨kk,kk1,kk2,eu⟩:=(VM.dE n 0 d (ts.drop (i+1))).ok f u hu;rw[List.drop_drop] at eu;have hul:u.length=ts.length - (i+1+kk):=by rw[eu,List.length_drop]
    rw[ul] at kk2;obtain⟨⟨dx2,hobj2⟩,hw2⟩:=id R2;refine⟨_,rfl,r,wl,ws,ts.length - u.length,")",rfl,R2,by omega,hlen,fun hc=>?_,fun hc=>?_⟩
    ·refine⟨_,rfl,r,dx2,_,rfl,hobj2,rfl,r,wl,ws,_,rfl,R2,fun H3 R3 sb3=>⟨_,rfl,?_⟩⟩;cases u with
     | nil =>
      exfalso
      rw[L0,Nat.sub_zero,←gb,dZ] at hc;exact absurd hc (by decide)
     | cons v r1 =>
      have hjl:ts.length - (v::r1).length < ts.length:=by rw[Kx];rw[Kx] at hul;omega
      have e9:i+1+kk=ts.length - (v::r1).length:=by omega
      obtain⟨wv,hwv,ewv⟩:=WO.ws.get (show ts[ts.length - (v::r1).length]?=some v by rw[←e9];exact nj eu)
      rw[d8 hwv] at hc;have hv:v=[41]:=(bX ewv (by decide)).mp hc
      have hrd:Vbavai.read (n+1) 1 (d+1) (ts.drop i)=.ok (f,r1):=by rw[hdr,e,VM.ke,hu];show(if v=[41] then _ else _)=_;rw[if_pos hv]
      refine k1 _ _ hrd H3 p (hf.sb sb3 R2) ?_ ((sb1.trans sb2).trans sb3);have e8:ts.length - r1.length=ts.length - (v::r1).length+1:=by rw[Kx] at hul ⊢;omega
      rw[e8];exact R3
    ·have key:∃e3,Vbavai.read (n+1) 1 (d+1) (ts.drop i)=.error e3∧ts.length+1 - e3=ts.length - u.length+1:=by
      rw[hdr,e,VM.ke,hu];cases u with
      | nil=>exact⟨0,rfl,by simp⟩
      | cons v r1 =>
       have hjl:ts.length - (v::r1).length < ts.length:=by rw[Kx];rw[Kx] at hul;omega
       have e9:i+1+kk=ts.length - (v::r1).length:=by omega
       obtain⟨wv,hwv,ewv⟩:=WO.ws.get (show ts[ts.length - (v::r1).length]?=some v by rw[←e9];exact nj eu)
       rw[d8 hwv] at hc;have hv:v≠[41]:=fun z=>hc ((bX ewv (by decide)).mpr z)
       exact⟨_,if_neg hv,by rw[Kx] at hul ⊢;omega⟩
     obtain⟨e3,he3,hp3⟩:=key;have z:=k2 e3 he3;rw[hp3] at z;exact z.sb (sb1.trans sb2)
   ·have hrd:Vbavai.read (n+1) 1 (d+1) (ts.drop i)=.error e2:=by rw[hdr,e,VM.ke,he]
    exact(k2 _ hrd).sb sb1
  ·have nl:wd∉wL:=by cases h<;>decide
   have np:decide (V.str wd=V.str "(")=false:=by cases h<;>decide
   have hmem:=nu.mpr hp;refine⟨_,rfl,aL,_,rfl,.inr (hLs _),rfl,rfl,_,rfl,bC (iO nl) ?_⟩;refine⟨_,rfl,rfl,_,rfl,bC np ⟨_,rfl,aP,_,rfl,.inr (hPs _),rfl,rfl,?_⟩⟩;refine⟨_,rfl,_,rfl,bC (by show(!nI (.str wd) (xH.map V.str))=false;rw[hmem];rfl) ⟨_,rfl,_,_,rfl,rfl,_,rfl,bC (Ln (by omega)) ?_⟩⟩
   refine⟨_,rfl,r,dx,_,rfl,hobj,rfl,r,wl,ws,i,rfl,R,fun H1 R1 sb1=>?_⟩;refine⟨_,rfl,aP,_,rfl,.inr (hPs _),rfl,rfl,_,rfl,gz hmem ?_⟩;refine⟨_,rfl,_,rfl,_,rfl,_,_,rfl,rfl,r,wl,ws,ts,i+1,n,?_,R1,WO,hlt,by omega,fun f u hu H2 p hf R2 sb2=>?_,fun e2 he=>?_⟩
   ·show [V.ref r,V.int (41 - ((d+1:Nat):Int)+1)]=_;rw[show(41:Int) - ((d+1:Nat):Int)+1=41 - (d:Int) by omega]
   ·have hrd:Vbavai.read (n+1) 1 (d+1) (ts.drop i)=.ok (mk f,u):=by rw[hdr,VM.mW _ _ _ e,hu];rfl
    exact⟨wd,g,mk,p,f,rfl,h,hf,fun H3 p3 f3 s3=>k1 _ _ hrd H3 p3 f3 (R2.same s3) ((sb1.trans sb2).trans (.of s3))⟩
   ·have hrd:Vbavai.read (n+1) 1 (d+1) (ts.drop i)=.error e2:=by rw[hdr,VM.mW _ _ _ e,he];rfl
    exact(k2 _ hrd).sb sb1
  ·have hrd:Vbavai.read (n+1) 1 (d+1) (ts.drop i)=.error ((ts.drop (i+1)).length+1):=by rw[hdr];exact VM.iX _ _ _ e1 e2 e3 e4
   have np:decide (V.str wd=V.str "(")=false:=Ln fun z=>h2 (V.str.inj z)
   refine⟨_,rfl,aL,_,rfl,.inr (hLs _),rfl,rfl,_,rfl,bC (iO h1) ?_⟩;refine⟨_,rfl,rfl,_,rfl,bC np ⟨_,rfl,aP,_,rfl,.inr (hPs _),rfl,rfl,?_⟩⟩;refine⟨_,rfl,_,rfl,gz (by show(!nI (.str wd) (xH.map V.str))=true;rw[iO h3];rfl) ?_⟩
   exact⟨_,rfl,r,CR,dx,_,_,rfl,hobj,TR.cl,TR.nt,rfl,_,_,rfl,rfl,bad _ hrd (by rw[ul];omega)⟩
 ·have e:i=ts.length:=by omega
  have hdr:ts.drop i=[]:=List.drop_eq_nil_of_le (by omega)
  have hrd:Vbavai.read (n+1) 1 (d+1) (ts.drop i)=.error 0:=by rw[hdr];exact VM.nG ..
  rw[show b9 ws i="" by rw[e,←gb];exact dZ]
  refine⟨_,rfl,aL,_,rfl,.inr (hLs _),rfl,rfl,_,rfl,bC rfl ?_⟩;refine⟨_,rfl,rfl,_,rfl,bC (by decide) ⟨_,rfl,aP,_,rfl,.inr (hPs _),rfl,rfl,?_⟩⟩
  refine⟨_,rfl,_,rfl,gz rfl ?_⟩;exact⟨_,rfl,r,CR,dx,_,_,rfl,hobj,TR.cl,TR.nt,rfl,_,_,rfl,rfl,bad _ hrd (by omega)⟩
theorem ji(F:aK K mg "read_formula" eF)(TR:qm K CR)(TT:y9 K mg)(cA:d4 P w K mg base C CR 1 "ahead" ["self"] (fU CR))(cT:d4 P w K mg base C CR 1 "take" ["self"] (jO CR))
  (cB:aS P w K mg base C 2 "read_bound" ["reader"] (pV CR))(cJ:aS P w K mg base C 5 "joined" ["word","first","second","bound"] (xa CF)){d:Nat}
  (ihP:aS P w K mg base C (2 * d+7) "read_part" ["reader","deep"] (gf C CR CF 1 d)):aS P w K mg base C (2 * d+8) "read_formula" ["reader","deep"] (gf C CR CF 0 d):=by
 refine F.cal (k:=2 * d+7) jK fun fa cdv A outer s H vs Q E hr h=>?_;obtain⟨r,wl,ws,ts,i,n,rfl,R,WO,hi,hn,k1,k2⟩:=h;have nd:=jK.nd;obtain⟨aJ,hJ,hJs⟩:=TT.joiners;have hr1:=hr.mono (show 1≤2 * d+7 by omega)
 have hr2:=hr.mono (show 2≤2 * d+7 by omega)
 have hr5:=hr.mono (show 5≤2 * d+7 by omega)
 have gb:ws.length=ts.length:=WO.ws.len;have hlen:ws.length≤1000:=by have:=WO.len;omega
 refine⟨_,ae (aE (i:=2) nd rfl (Or.inl rfl) (aj ihP hr rfl bb (a8 (pv 0) (a8 (pv 1) aa))))
  (ae (aE (i:=3) nd rfl (Or.inl rfl) (fE (pv 0) TR.cl cA hr1 ay))
  (ae (aV (aI fP (pv 3) (bo (v:=.ref aJ) rfl hJ rfl) rfl) (ai (aw (pv 2))) aB)
  (ae (bH (fE (pv 0) TR.cl cT hr1 ay))
  (ae (aE (i:=4) nd rfl (Or.inl rfl) nY)
  (ae (aV (aI bV (pv 3) bf (aR _)) (ai (aE (i:=4) nd rfl (Or.inl rfl) (aj cB hr2 rfl ay (a8 (pv 0) aa)))) aB)
  (ae (aE (i:=5) nd rfl (Or.inl rfl) (aj ihP hr rfl bb (a8 (pv 0) (a8 (pv 1) aa))))
  (ai (aw (aj cJ hr5 rfl ay (a8 (pv 3) (a8 (pv 2) (a8 (pv 5) (a8 (pv 4) aa))))))))))))),?_⟩
 obtain⟨n,rfl⟩:∃n',n=n'+1:=⟨n - 1,by omega⟩
 refine⟨_,rfl,_,rfl,r,wl,ws,ts,i,n,rfl,R,WO,hi,by omega,fun f u hu H1 p hf R1 sb1=>?_,fun e he=>k2 e (VM.gv he)⟩
 obtain⟨kk,kk1,kk2,eu⟩:=(VM.dE n 1 d (ts.drop i)).ok f u hu;rw[List.length_drop] at kk2;rw[List.drop_drop] at eu;have hul:u.length=ts.length - (i+kk):=by rw[eu,List.length_drop]
 obtain⟨⟨dx1,hobj1⟩,hw1⟩:=id R1;refine⟨_,rfl,r,dx1,_,rfl,hobj1,rfl,r,wl,ws,_,rfl,R1,by omega,hlen,?_⟩
 have sec:∀(wd:Str)(bv:V)(mk:Fm->Fm->Fm)(Hs:Hp)(js:Nat),GY wd bv mk->yr CR Hs r wl ws js->SB r H Hs->bx CF Hs f p->js≤ts.length->i < js->Vbavai.read (n+1) 0 d (ts.drop i)=VM.mapR (mk f) (Vbavai.read n 1 d (ts.drop js)) →
   IP (BZ (jj (gf C CR CF 1 d) [] E (bZ (bL 0) (bZ (bL 1) gP))) (eI 5)) (zJ (jj (xa CF) [] EF (bZ (bL 3) (bZ (bL 2) (bZ (bL 5) (bZ (bL 4) gP))))))
    {nx:=fun _ H'=>Q .non H',rt:=Q} [some (.ref r),some (.int (41 - (d:Int))),some (.ref p),some (.str wd),some bv,none] Hs:=by
  intro wd bv mk Hs js jo Rs sbs hfs hjs hij hrd;refine⟨_,rfl,_,rfl,r,wl,ws,ts,js,n,rfl,Rs,WO,hjs,by omega,fun f2 u2 hu2 H3 p3 hf3 R3 sb3=>?_,fun e he=>?_⟩
  ·have h4:Vbavai.read (n+1) 0 d (ts.drop i)=.ok (mk f f2,u2):=by rw[hrd,hu2];rfl
   exact⟨_,rfl,_,rfl,_,rfl,_,rfl,wd,bv,mk,p,p3,f,f2,rfl,jo,hfs.sb sb3 Rs,hf3,fun H4 p4 f4 s4=>k1 _ _ h4 H4 p4 f4 (R3.same s4) ((sbs.trans sb3).trans (.of s4))⟩
  ·have h4:Vbavai.read (n+1) 0 d (ts.drop i)=.error e:=by rw[hrd,he];rfl
   exact(k2 _ h4).sb sbs
 cases u with
 | nil =>
  rw[show b9 ws (ts.length - ([]:List (List Nat)).length)="" by rw[L0,Nat.sub_zero,←gb];exact dZ]
  refine⟨_,rfl,aJ,_,rfl,.inr (hJs _),rfl,rfl,_,rfl,gz rfl ⟨_,rfl,?_⟩⟩;exact k1 f [] (VM.gj hu) H1 p hf R1 sb1
 | cons v r1 =>
  have hj:ts.length - (v::r1).length=i+kk:=by omega
  have hjl:i+kk < ts.length:=by rw[Kx] at hul;omega
  have er1:r1=ts.drop (i+kk+1):=by
   have z:=pL hjl;rw[←eu] at z;injection z
  obtain⟨wv,hwv,ewv⟩:=WO.ws.get (nj eu);rw[hj] at R1 ⊢;rw[d8 hwv];rcases GA ewv with ⟨h,e⟩ | ⟨h,e⟩ | ⟨h,e⟩ | ⟨h,e⟩ | ⟨h,e1,e2,e3,e4⟩
  ·subst h;rw[e] at hu;refine⟨_,rfl,aJ,_,rfl,.inr (hJs _),rfl,rfl,_,rfl,bC rfl ?_⟩;refine⟨_,rfl,r,dx1,_,rfl,hobj1,rfl,r,wl,ws,_,rfl,R1,fun H2 R2 sb2=>?_⟩;refine⟨_,rfl,rfl,_,rfl,bC (by decide) ?_⟩
   exact sec "and" .non .and H2 (i+kk+1) .and R2 (sb1.trans sb2) (hf.sb sb2 R1) hjl (by omega) (by rw[VM.gi hu,er1])
  ·subst h;rw[e] at hu;refine⟨_,rfl,aJ,_,rfl,.inr (hJs _),rfl,rfl,_,rfl,bC rfl ?_⟩;refine⟨_,rfl,r,dx1,_,rfl,hobj1,rfl,r,wl,ws,_,rfl,R1,fun H2 R2 sb2=>?_⟩;refine⟨_,rfl,rfl,_,rfl,bC (by decide) ?_⟩
   exact sec "or" .non .or H2 (i+kk+1) .or R2 (sb1.trans sb2) (hf.sb sb2 R1) hjl (by omega) (by rw[VM.gQ hu,er1])
  ·subst h;rw[e] at hu;refine⟨_,rfl,aJ,_,rfl,.inr (hJs _),rfl,rfl,_,rfl,bC rfl ?_⟩;refine⟨_,rfl,r,dx1,_,rfl,hobj1,rfl,r,wl,ws,_,rfl,R1,fun H2 R2 sb2=>?_⟩;refine⟨_,rfl,rfl,_,rfl,bC (by decide) ?_⟩
   exact sec "AU" .non Vbavai.allUntil H2 (i+kk+1) .au R2 (sb1.trans sb2) (hf.sb sb2 R1) hjl (by omega) (by rw[VM.gO hu,er1])
  ·subst h;rw[e] at hu;refine⟨_,rfl,aJ,_,rfl,.inr (hJs _),rfl,rfl,_,rfl,bC rfl ?_⟩;refine⟨_,rfl,r,dx1,_,rfl,hobj1,rfl,r,wl,ws,_,rfl,R1,fun H2 R2 sb2=>?_⟩;refine⟨_,rfl,rfl,_,rfl,gz (by decide) ?_⟩
   have asc:=WO.asc (i+kk+1)
   have kw:∀(k:List Nat)(r2:List (List Nat)),r1=k::r2->Vbavai.upTo 12 (tl (b9 ws (i+kk+1)))=Vbavai.upTo 12 k:=fun k r2 ek=>by
    obtain⟨w2,hw2,ew2⟩:=WO.ws.get (nj (ek.symm.trans er1));rw[d8 hw2,ew2,E3]
   refine⟨_,rfl,r,wl,ws,i+kk+1,rfl,R2,by omega,hlen,asc.1,asc.2,fun hno=>?_,fun m hm H3 R3 sb3=>?_⟩
   ·exact sec "EU" .non .until_ H2 (i+kk+1) .eu R2 (sb1.trans sb2) (hf.sb sb2 R1) hjl (by omega) (by rw[VM.dS hu (fun k r2 ek=>by rw[←kw k r2 ek];exact hno),er1])
   ·cases hr1':r1 with
    | nil =>
     exfalso
     have:i+kk+1=ts.length:=by rw[hr1'] at hul;simp at hul;omega
     have e0:Vbavai.upTo 12 (tl ("":Str))=none:=by decide
     rw[this,←gb,dZ,e0] at hm;cases hm
    | cons k r2 =>
     have hk2:=kw k r2 hr1';rw[hm] at hk2;have hl2:i+kk+1 < ts.length:=by rw[hr1'] at hul;simp at hul;omega
     have er2:r2=ts.drop (i+kk+2):=by
      have z:=pL hl2;rw[←er1,hr1'] at z;injection z
     exact sec "EU" (nat m) (.within m) H3 (i+kk+2) (.euk m (VM.AJ hk2.symm)) R3 ((sb1.trans sb2).trans sb3) ((hf.sb sb2 R1).sb sb3 R2) hl2 (by omega) (by rw[VM.gy (k:=k) (by rw[hr1'] at hu;exact hu) hk2.symm,er2])
  ·refine⟨_,rfl,aJ,_,rfl,.inr (hJs _),rfl,rfl,_,rfl,gz (by show(!nI (.str wv) (Hn.map V.str))=true;rw[iO h];rfl) ⟨_,rfl,?_⟩⟩
   refine k1 f (v::r1) (VM.fD hu e1 e2 e3 e4) H1 p hf ?_ sb1;rw[hj];exact R1
theorem xp(FP:aK K mg "read_part" fz)(FF:aK K mg "read_formula" eF)(TR:qm K CR)(TT:y9 K mg)(M:yQ P w K mg base C CF)(W:XW P w K mg base C)(cA:d4 P w K mg base C CR 1 "ahead" ["self"] (fU CR))(cT:d4 P w K mg base C CR 1 "take" ["self"] (jO CR))
  (cP:aS P w K mg base C 6 "prefixed" ["word","inner"] (Ar CF))(cW:aS P w K mg base C 3 "want" ["reader","word"] (rG C CR))(cB:aS P w K mg base C 2 "read_bound" ["reader"] (pV CR))(cJ:aS P w K mg base C 5 "joined" ["word","first","second","bound"] (xa CF)) :
  ∀d:Nat,aS P w K mg base C (2 * d+7) "read_part" ["reader","deep"] (gf C CR CF 1 d)∧aS P w K mg base C (2 * d+8) "read_formula" ["reader","deep"] (gf C CR CF 0 d)
 | 0 =>
  have a:=sv FP TR TT M W cA cT
  ⟨a,ji FF TR TT cA cT cB cJ (d:=0) a⟩
 | d+1 =>
  have ih:=xp FP FF TR TT M W cA cT cP cW cB cJ d;have a:=vI FP TR TT M W cA cT cP cW ih.1 ih.2
  ⟨a,ji FF TR TT cA cT cB cJ (d:=d+1) a⟩
theorem DM{x:Str}{g:TG}{tt:TT}{te:TE}{vs:List Nat}{σ:L2.St}{H1:Hp}{D:Addr}{Qd:Hp->Prop}(Pv:Nat->Hp->Prop)(h0:Pv 0 (upd H1 D (.lst [])))
  (hs:∀i c H,(tl x)[i]?=some c->Pv i H->g (.str ⟨#[c]⟩) (bJ σ vs) H fun σ2 H2=>bJ σ2 vs=bJ σ vs∧tt σ2 H2 fun b H3 =>
   if b=true then te σ2 H3 fun y H4=>∃acc,H4 D=some (.lst acc)∧acc.length < sizeLine∧Pv (i+1) (upd H4 D (.lst (acc++[y]))) else Pv (i+1) H3)(hd:∀H,Pv (tl x).length H->Qd H) :
  ∃W:Nat->Nat->Hp->Prop,(∃m,W 0 m (upd H1 D (.lst [])))∧∀i m H,W i m H →
   ((Ia x).stop i H∧Qd H)∨((Ia x).go i H∧∃Nx:Hp->Prop,(∀H',Nx H'->∃m',m' < m∧W (i+1) m' H')∧∀v H',(Ia x).yld i H v H'->g v (bJ σ vs) H' fun σ2 H2=>bJ σ2 vs=bJ σ vs∧tt σ2 H2 fun b H3 =>
    if b=true then te σ2 H3 fun y H4=>∃acc,H4 D=some (.lst acc)∧acc.length < sizeLine∧Nx (upd H4 D (.lst (acc++[y]))) else Nx H3):=by
 have hsz:x.cps.size=(tl x).length:=by simp[tl]
 refine⟨fun i m H=>m=(tl x).length - i∧i≤(tl x).length∧Pv i H,⟨_,rfl,KZ _,h0⟩,?_⟩;rintro i m H ⟨rfl,hi,p⟩
 by_cases hlt:i < (tl x).length
 ·refine .inr ⟨(by show i < x.cps.size;omega),Pv (i+1),fun H' p'=>⟨_,by omega,rfl,hlt,p'⟩,fun v H' y=>?_⟩
  obtain⟨rfl,c,hc,rfl⟩:=y;exact hs i c _ (by simpa [tl] using hc) p
 ·have e:i=(tl x).length:=by omega
  subst e;exact .inl ⟨(by show x.cps.size≤(tl x).length;omega),hd H p⟩
abbrev fh:Str:="0123456789ABCDEFGHIJKLMNOPQRSTUVWXYZabcdefghijklmnopqrstuvwxyz"
def C9:List (di×V):=(tl fh).map fun(c:Nat)=>(Sum.inl (c:Int),V.str ⟨#[c]⟩)
def Dm:List (di×V):=dF (dF (dF (dF (fj [] C9) (.inl 40) (.str " ( ")) (.inl 41) (.str " ) ")) (.inl 32) (.str " ")) (.inl 10) (.str " ")
theorem Gw:∀b:Nat,b < 256->(dR Dm (.inl (b:Int))).getD (.str "?")=.str ⟨(VM.yg b).toArray⟩:=by decide +kernel
def vA:Sp:=fun vs H Q _=>vs=[]∧∀(H':Hp)(d:Addr),H' d=some (.dK Dm)->aD H H'->Q (.ref d) H'
theorem oB{α β:Type}{G:α->β->Prop}:∀{l:List α}{m:List β}{a:α}{b:β},Paired G l m->G a b->Paired G (l++[a]) (m++[b])
 | _,_,_,_,.nil,h=>.cons h .nil
 | _,_,_,_,.cons r t,h=>.cons r (oB t h)
theorem sP(F:aK K mg "sign_table" iE)(T:j3 mg)(hW:∃t,mg "WORD_SIGNS"=some (.str fh t)):aS P w K mg base C 1 "sign_table" [] vA:=by
 refine F.cal mJ fun fa cdv A outer s H vs Q E hr h=>?_;obtain⟨rfl,k⟩:=h;obtain⟨tw,hW⟩:=hW;have nd:=mJ.nd;have hu:=Af hr
 refine⟨_,ae (aE (i:=0) nd rfl (Or.inl rfl) (ij (ze rfl) rfl T.dict (by decide +kernel:bootBuiltins "dict"=some (.type "dict")) (a8 (du (own:=[("sign",1)]) rfl nd (CJ (bo (v:=.str fh) rfl hW ⟨tw,rfl⟩)) (ba rfl) (fun _ _ _ _ _=>aO (i:=1) nd rfl (Or.inl rfl)) (fun _ _ _ _ _=>bP)
   (fun _ _ _ _ _=>vW (a8 (aQ iA rfl T.ord boot_ord (a8 (pv 1) aa)) (a8 (pv 1) aa)))) aa)))
  (ae (kH hu (pv 0) (aQ iA rfl T.ord boot_ord (a8 bf aa)) bf rfl)
  (ae (kH hu (pv 0) (aQ iA rfl T.ord boot_ord (a8 bf aa)) bf rfl)
  (ae (kH hu (pv 0) (aQ iA rfl T.ord boot_ord (a8 bf aa)) bf rfl)
  (ae (kH hu (pv 0) (aQ iA rfl T.ord boot_ord (a8 bf aa)) bf rfl)
  (ai (aw (pv 0))))))),?_⟩
 refine⟨_,rfl,fun D hD=>?_⟩;have len0:C9.length=(tl fh).length:=by unfold C9;exact Kv ..
 refine DM (x:=fh) (fun i H'=>∃ps:List Addr,H' D=some (.lst (ps.map V.ref))∧ps.length=i∧Paired (fun p (kv:di×V)=>H' p=some (.tup [kV kv.1,kv.2])) ps (C9.take i)∧aD H H') ⟨[],a9,rfl,.nil,ah hD⟩ ?_ ?_
 ·rintro i c H' hc ⟨ps,p1,pl,pp,p2⟩;have hi:i < (tl fh).length:=(KQ.mp hc).1;have hi62:i < 62:=hi;refine⟨rfl,_,rfl,⟨#[c]⟩,rfl,rfl,_,rfl,A6,fun q hq=>?_⟩;have qD:D≠q:=aq p1 hq;have e:C9[i]?=some (Sum.inl (c:Int),V.str ⟨#[c]⟩):=by unfold C9;rw[Kw,hc];rfl
  refine⟨_,bj hq p1,br (by rw[Kv];omega),ps++[q],by rw[a9,KO];rfl,by rw[Ky,pl];rfl,?_,bh (fw hq p2) hD⟩
  rw[bS e];refine oB (L2.Paired.mapP pp fun p kv hp=>?_) ?_
  ·rw[ak (cK hp p1 (by intro z;cases z)),ak (aq hp hq)];exact hp
  ·rw[ak (Ne.symm qD),a9];rfl
 ·rintro H' ⟨ps,p1,pl,pp,p2⟩;rw[←len0,Lo] at pp;refine⟨D,ps,C9,rfl,aH.of p1,L2.Paired.mapP pp fun p kv hp=>eB.of hp,fun d hd=>?_⟩;have s1:aD H (upd H' d (.dK (fj [] C9))):=bh p2 (p2.free hd);have fresh:∀b o,H b=some o->b≠d:=fun b o e=>aq e (p2.free hd);have L1:(fj [] C9).length < 1000:=by decide +kernel
  have L2:(dF (fj [] C9) (.inl 40) (.str " ( ")).length < 1000:=by decide +kernel
  have L3:(dF (dF (fj [] C9) (.inl 40) (.str " ( ")) (.inl 41) (.str " ) ")).length < 1000:=by decide +kernel
  have L4:(dF (dF (dF (fj [] C9) (.inl 40) (.str " ( ")) (.inl 41) (.str " ) ")) (.inl 32) (.str " ")).length < 1000:=by decide +kernel
  refine⟨_,rfl,_,rfl,rfl,d,_,rfl,pd.k (k:=.inl 40) a9 (br (by omega)),?_⟩
  refine⟨_,rfl,_,rfl,rfl,d,_,rfl,pd.k (k:=.inl 41) a9 (br (by omega)),?_⟩
  refine⟨_,rfl,_,rfl,rfl,d,_,rfl,pd.k (k:=.inl 32) a9 (br (by omega)),?_⟩
  refine⟨_,rfl,_,rfl,rfl,d,_,rfl,pd.k (k:=.inl 10) a9 (br (by omega)),?_⟩
  rw[eG,eG,eG,eG];exact⟨_,rfl,k _ d a9 (bh p2 (p2.free hd))⟩
theorem qb(l:List Str):PySem.Txt.join "" l=Str.join ⟨#[]⟩ l:=eq_of_beq (join_plain_closes _ l)
theorem ko:∀l:List Str,tl (PySem.Txt.join "" l)=l.flatMap tl
 | []=>by rw[qb];rfl
 | a::r=>by
  have ih:=ko r;rw[qb] at ih ⊢;rw[PyProof.Rows.join_nil_cons,TL.nQ,ih,Lz]
theorem vO:∀(l acc:List Nat),TL.pC [32] 0 acc l=VM.jS acc l
 | [],acc=>by rw[TL.pO];rfl
 | c::r,acc=>by
  by_cases h:c=32
  ·subst h;rw[TL.A1 (by simp[TL.pre]),VM.gH]
   show acc::TL.pC [32] 0 [] r=_;rw[vO r []]
  ·rw[TL.wD (by simp[TL.pre,h]),VM.ma h,vO r]
theorem sU(l:List Str):(l.filter fun x=>!decide (V.str x=V.str "")).map tl=(l.map tl).filter VM.vd:=by
 induction l with
 | nil=>rfl
 | cons a r ih =>
  have e:(!decide (V.str a=V.str ""))=VM.vd (tl a):=by
   by_cases h:tl a=[]
   ·have:a="":=TL.Ey (by rw[h];decide)
    subst this;decide
   ·have h2:V.str a≠V.str "":=fun z=>h (by rw[V.str.inj z];decide)
    rw[Ln h2];cases q:tl a with
    | nil=>exact absurd q h
    | cons _ _=>rfl
  rw[LK,KR,LK,←e];cases !decide (V.str a=V.str "") with
  | true=>rw[if_pos rfl,if_pos rfl,KR,ih]
  | false=>rw[if_neg KM,if_neg KM,ih]
theorem Ao(b:Nat):(VM.yg b).length≤3:=by
 unfold VM.yg
 split
 ·simp
 split
 ·decide
 split
 ·decide
 split<;>decide
theorem mz:∀bs:List Nat,(bs.flatMap VM.yg).length≤3 * bs.length
 | []=>KG _
 | b::r=>by
  have:=mz r;have:=Ao b;rw[Lz,Ky,Kx];omega
def xX(b:Nat):Str:=⟨(VM.yg b).toArray⟩
theorem Ag:∀bs:List Nat,((bs.map xX).map (·.length)).sum≤3 * bs.length
 | []=>KG _
 | b::r=>by
  have:=Ag r;have h1:=Ao b;have e:(xX b).length=(VM.yg b).length:=by rw[TL.gp];rfl
  rw[KR,KR,List.sum_cons,Kx,e];omega
def wordsOf(bs:List Nat):List Str:=(PySem.Txt.split (PySem.Txt.join "" (bs.map xX)) " ").filter fun x=>!decide (V.str x=V.str "")
theorem Ee(bs:List Nat):WS (wordsOf bs) (tokens bs []):=by
 unfold WS wordsOf;have e1:tl (" ":Str)=[32]:=by decide
 rw[sU,TL.BY _ _ (by rw[e1];simp) (TL.EN (by decide +kernel)),e1,vO,ko,List.flatMap_map]
 exact VM.fR bs []
theorem kD:∀(b w:List Nat),∀t∈tokens b w,t.length≤b.length+w.length
 | [],w,t,h=>by
  unfold tokens at h
  split at h
  ·cases h
  ·rw[Lq.mp h,List.length_reverse];omega
 | c::r,w,t,h=>by
  have before:∀t,t∈(if w.isEmpty=true then [] else [w.reverse])->t.length≤w.length:=fun t h=>by
   split at h
   ·cases h
   ·rw[Lq.mp h,List.length_reverse];exact KG _
  rw[Kx];unfold tokens at h;dsimp only at h
  split at h
  ·rcases Lb.mp h with h | h
   ·have:=before t h;omega
   ·have:=kD r [] t h;rw[L0] at this;omega
  ·split at h
   ·rcases Lb.mp h with h | h
    ·have:=before t h;omega
    ·rcases List.mem_cons.mp h with rfl | h
     ·show 1≤_;omega
     ·have:=kD r [] t h;rw[L0] at this;omega
   ·have:=kD r (c::w) t h;rw[Kx] at this;omega
theorem DE{bs:List Nat}(h:bs.length≤400):Jo (wordsOf bs) (tokens bs []) :=
 ⟨Ee bs,Lh (VM.md bs []) (by rw[if_pos (show([]:List Nat).isEmpty=true from rfl)];omega),fun t ht=>by have:=kD bs [] t ht;rw[L0] at this;omega⟩
inductive uY(K:Frag)(vs:List V)(H:Hp)(Q:VK)(z3_:XK):Prop
 | mk (a:Addr) (bs:List Nat):vs=[.ref a]->aH K H a (bs.map nat)->bs.length≤400->(∀b∈bs,b < 256)->(∀(H':Hp)(p:Addr),H' p=some (.lst ((wordsOf bs).map V.str))->aD H H'->Q (.ref p) H')->uY K vs H Q z3_
theorem xP(F:aK K mg "words_of" m9)(hF:∃t,mg "FOREIGN_SIGN"=some (.str "?" t))(cS:aS P w K mg base C 1 "sign_table" [] vA):aS P w K mg base C 2 "words_of" ["text"] (uY K):=by
 refine F.cal qk fun fa cdv A outer s H vs Q E hr h=>?_;obtain⟨a,bs,rfl,ha,hlen,hb,k⟩:=h;obtain⟨tf,hF⟩:=hF;have nd:=qk.nd;have hu:=Af hr
 refine⟨_,ae (aE (i:=1) nd rfl (Or.inr rfl) (B0 cS hr rfl ay))
  (ae (aE (i:=2) nd rfl (Or.inl rfl) (AM bf (du (own:=[("byte",3)]) rfl nd (bF (pv 0)) (ba rfl) (fun _ _ _ _ _=>aO (i:=3) nd rfl (Or.inl rfl)) (fun _ _ _ _ _=>bP)
   (fun _ _ _ _ _=>Cp hu (pv 1) (pv 3) (bo (v:=.str "?") rfl hF ⟨tf,rfl⟩) ⟨rfl,rfl,rfl,rfl⟩))))
  (ai (aw (du (own:=[("word",4)]) rfl nd (bF (Dc (pv 2) bf)) (ba rfl) (fun _ _ _ _ _=>aO (i:=4) nd rfl (Or.inl rfl)) (fun _ _ _ _ _=>iN (aI qI (pv 4) bf (aR _))) (fun _ _ _ _ _=>pv 4))))),?_⟩
 refine⟨rfl,fun H1 d hd s1=>?_⟩;have ha1:=s1.seq ha;refine⟨⟨_,rfl⟩,_,rfl,a,rfl,⟨_,ha1⟩,fun D hD=>?_⟩;refine cj (K:=K) (a:=a) (xs:=bs.map nat) (fun i H'=>H' D=some (.lst (((bs.map xX).map V.str).take i))∧aD H1 H') ⟨a9,ah hD⟩ (fun i H' _ p=>p.2.seq ha1) ?_ ?_
 ·rintro i v H' hv ⟨p1,p2⟩;rw[Kw] at hv;obtain⟨b,hbi,rfl⟩:=KF.mp hv;have hd':=p2 _ _ hd;refine⟨rfl,_,rfl,d,rfl,.inl ⟨_,.inl hd'⟩,_,rfl,_,kR.k (k:=.inl (b:Int)) hd',?_⟩;rw[Gw b (hb b (KA hbi))];exact bD hD p1 p2 (by rw[Kw,Kw,hbi];rfl) (by rw[Kv,Kv];omega)
 ·rintro H2 ⟨p1,p2⟩;rw[Kv,KS (by rw[Kv,Kv];exact KG _)] at p1
  have hs:=Ag bs;refine⟨_,D,bs.map xX,rfl,rfl,.inl (aH.of p1),?_,?_⟩
  ·have e0:("":Str).length=0:=by decide
   rw[e0,Nat.mul_zero];omega
  have jl:(PySem.Txt.join "" (bs.map xX)).length≤1200:=by
   rw[TL.gp,ko,List.flatMap_map];have:=mz bs;exact Lh (show(bs.flatMap VM.yg).length≤1200 by omega) (KG _)
  refine⟨_,rfl,⟨_,rfl⟩,_,_,rfl,rfl,(by decide),LR (br (by omega)),fun l hl=>⟨l,rfl,⟨_,aH.of a9⟩,fun D2 hD2=>?_⟩⟩
  have sl:(PySem.Txt.split (PySem.Txt.join "" (bs.map xX)) " ").length≤2000:=Lh (PyProof.Rows.split_le _ _) (by omega)
  generalize hparts:PySem.Txt.split (PySem.Txt.join "" (bs.map xX)) " "=parts at *;have hw:wordsOf bs=parts.filter fun x=>!decide (V.str x=V.str ""):=by unfold wordsOf;rw[hparts]
  refine cj (K:=K) (a:=l) (xs:=parts.map V.str) (fun i H'=>H' D2=some (.lst (((parts.take i).filter fun x=>!decide (V.str x=V.str "")).map V.str))∧aD (upd H2 l (.lst (parts.map V.str))) H') ⟨a9,ah hD2⟩ (fun i H' _ p=>aH.of (p.2 _ _ a9)) ?_ ?_
  ·rintro i v H' hv ⟨q1,q2⟩;rw[Kw] at hv;obtain⟨x,hxi,rfl⟩:=KF.mp hv;refine⟨rfl,_,rfl,rfl,_,rfl,?_⟩
   have et:(parts.take (i+1)).filter (fun x=>!decide (V.str x=V.str ""))=(parts.take i).filter (fun x=>!decide (V.str x=V.str ""))++(if(!decide (V.str x=V.str ""))=true then [x] else []):=by
    rw[bS hxi,LM,LK,LL]
   refine de (fun h=>?_) (fun h=>?_)
   ·refine⟨_,rfl,_,q1,?_,?_,bh q2 hD2⟩
    ·rw[Kv];refine br (LI (Lg ..) ?_);rw[L9];omega
    ·rw[a9,et,if_pos h,KO];rfl
   ·refine⟨?_,q2⟩;rw[et,if_neg h,Lp];exact q1
  ·rintro H' ⟨q1,q2⟩;rw[Kv,Lo,←hw] at q1;exact k H' D2 q1 ((s1.trans p2).trans ((ah hl).trans q2))
structure K1(P:Program)(w:World)(K:Frag)(mg:Str->Option Value)(base:Heap)(C CR:Addr):Prop where
 ex:∃f fd,Mk K CR f∧dh P w K mg base (ic P w C) 1 f fd ["self","words"] (uP CR)∧mg "Reader"=some (.ref CR)∧d7 K fd ["self","words"] []
inductive eR(K:Frag)(C CF:Addr)(vs:List V)(H:Hp)(Q:VK)(E:XK):Prop
 | mk (a:Addr) (bs:List Nat):vs=[.ref a]->aH K H a (bs.map nat)->bs.length≤400->(∀b∈bs,b < 256)->(∀f,Vbavai.readAll bs=.ok f->∀(H':Hp)(p:Addr),bx CF H' f p->aD H H'->Q (.ref p) H')->(∀e,Vbavai.readAll bs=.error e->∀(H':Hp)(dx:Addr),H' dx=some (.xd [("place",nat e)])->aD H H'->E (.ref C) (some dx) H')->eR K C CF vs H Q E
theorem xq{bs:List Nat}{e:Nat}(h:Vbavai.read (3 * (tokens bs []).length+3) 0 40 (tokens bs [])=.error e):Vbavai.readAll bs=.error ((tokens bs []).length+1 - e):=by
 unfold Vbavai.readAll;dsimp only;rw[show Vbavai.DEEP=40 from rfl,h]
theorem zg{bs:List Nat}{f:Fm}(h:Vbavai.read (3 * (tokens bs []).length+3) 0 40 (tokens bs [])=.ok (f,[])):Vbavai.readAll bs=.ok f:=by
 unfold Vbavai.readAll;dsimp only;rw[show Vbavai.DEEP=40 from rfl,h]
theorem uR{bs:List Nat}{f:Fm}{v:List Nat}{r:List (List Nat)}(h:Vbavai.read (3 * (tokens bs []).length+3) 0 40 (tokens bs [])=.ok (f,v::r)):Vbavai.readAll bs=.error ((tokens bs []).length+1 - (v::r).length):=by
 unfold Vbavai.readAll;dsimp only;rw[show Vbavai.DEEP=40 from rfl,h]
theorem sM(F:aK K mg "formula_of" iK)(TR:qm K CR)(TT:y9 K mg)(M:K1 P w K mg base C CR)(cD:aS P w K mg base C 2 "words_of" ["text"] (uY K))(cF:aS P w K mg base C (2 * 40+8) "read_formula" ["reader","deep"] (gf C CR CF 0 40))
  (cW:aS P w K mg base C 3 "want" ["reader","word"] (rG C CR)):aS P w K mg base C 89 "formula_of" ["text"] (eR K C CF):=by
 refine F.cal (k:=88) mS fun fa cdv A outer s H vs Q E hr h=>?_;obtain⟨a,bs,rfl,ha,hlen,hb,k1,k2⟩:=h;obtain⟨te,hE⟩:=TT.eND;obtain⟨fi,fdi,mk,G,hmR,b⟩:=M.ex;have nd:=mS.nd;have hr2:=hr.mono (show 2≤88 by decide)
 have hr3:=hr.mono (show 3≤88 by decide)
 refine⟨_,ae (aE (i:=1) nd rfl (Or.inl rfl) (iL mk G hr2 rfl hmR b .nil ay (a8 (aj cD hr2 rfl ay (a8 (pv 0) aa)) aa)))
  (ae (aE (i:=2) nd rfl (Or.inl rfl) (aj cF hr rfl bb (a8 (pv 1) (a8 aA aa))))
  (ae (bH (aj cW hr3 rfl bb (a8 (pv 1) (a8 (bo (v:=.str "") rfl hE ⟨te,rfl⟩) aa))))
  (ai (aw (pv 2))))),?_⟩
 refine⟨_,rfl,a,bs,rfl,ha,hlen,hb,fun H1 wl hwl s1 r dx nr ndx ne=>⟨r,dx,wl,rfl,a9,fun H2 h2 sb=>⟨rfl,?_⟩⟩⟩;have s2:aD H1 H2:=fun c o e=>sb c o (by rw[ak (aq e nr),ak (aq e ndx)];exact e) (aq e nr)
 have s12:=s1.trans s2;have hrn:H r=none:=s1.free nr;have R2:yr CR H2 r wl (wordsOf bs) 0:=⟨⟨dx,h2⟩,s2 _ _ hwl⟩;have WO:=DE hlen;have gb:(wordsOf bs).length=(tokens bs []).length:=WO.ws.len;have old:∀H',SB r H2 H'->aD H H':=fun H' z c o e=>z c o (s12 c o e) (aq e hrn);refine⟨_,rfl,r,wl,wordsOf bs,tokens bs [],0,3 * (tokens bs []).length+3,rfl,R2,WO,KZ _,by omega,fun f u hu H3 p hf R3 sb3=>?_,fun e he=>?_⟩
 ·rw[List.drop_zero] at hu;have rs:=(VM.dE _ 0 40 (tokens bs [])).ok f u hu;refine⟨_,rfl,r,wl,wordsOf bs,_,"",rfl,R3,by omega,by have:=WO.len;omega,fun hc=>⟨_,rfl,?_⟩,fun hc=>?_⟩
  ·cases u with
   | nil=>exact k1 f (zg hu) H3 p hf (old H3 sb3)
   | cons v r1 =>
    exfalso
    obtain⟨kk,_,kk2,eu⟩:=rs;have hul:(v::r1).length=(tokens bs []).length - kk:=by rw[eu,List.length_drop]
    have e9:kk=(tokens bs []).length - (v::r1).length:=by omega
    have hg:=nj eu;obtain⟨wv,hwv,ewv⟩:=WO.ws.get hg;rw[←e9,d8 hwv] at hc;have e0:tl ("":Str)=[]:=by decide
    rw[hc,e0] at ewv;have hv:v=[]:=by cases v with | nil=>rfl | cons _ _=>simp at ewv
    exact VM.kF bs [] v (KA hg) hv
  ·cases u with
   | nil =>
    exfalso
    rw[L0,Nat.sub_zero,←gb,dZ] at hc;exact hc rfl
   | cons v r1 =>
    obtain⟨kk,_,kk2,eu⟩:=rs;have hul:(v::r1).length=(tokens bs []).length - kk:=by rw[eu,List.length_drop]
    intro H' dx' hdx' sb';refine k2 _ (uR hu) H' dx' ?_ (old H' (sb3.trans sb'));rw[hdx'];have e:(tokens bs []).length - (v::r1).length+1=(tokens bs []).length+1 - (v::r1).length:=by rw[Kx] at hul ⊢;omega
    rw[e]
 ·rw[List.drop_zero] at he;intro H' dx' hdx' sb';exact k2 _ (xq he) H' dx' hdx' (old H' sb')
end Can
namespace Can
open PySem PySem.Spec PyProof.Rows L2 XL
variable{P:Program}{w:World}{K:Frag}{mg:Str->Option Value}{base:Heap}{C CG CF CT CR CY:Addr}
inductive cz(vs:List V)(H:Hp)(Q:VK)(z3_:XK):Prop
 | mk (a:Addr) (xs:List V):vs=[.ref a]->H a=some (.lst xs)->xs.length < 900000->(∀(H':Hp)(p:Addr),H' p=some (.lst (.int (xs.length:Int)::xs))->aD H H'->Q (.ref p) H')->cz vs H Q z3_
theorem yS(F:aK K mg "counted" nL)(T:j3 mg):aS P w K mg base C 1 "counted" ["numbers"] cz:=by
 refine F.cal BH fun f cdv A outer s H vs Q E hr h=>?_;obtain⟨a,xs,rfl,ha,hl,k⟩:=h;refine⟨_,ai (aw (dD gS (aN (a8 (aQ aU rfl T.len boot_len (a8 (pv 0) aa)) aa)) (pv 0))),?_⟩;refine⟨_,rfl,a,_,rfl,.inl (aH.of ha),fM,fun q hq=>⟨_,rfl,q,a,_,_,rfl,rfl,a9,bj hq ha,LR (br (by show 1+_ < _;omega)),fun z hz=>k _ z a9 ((ah hq).trans (ah hz))⟩⟩
abbrev D1(H:Hp)(a:Addr)(l:List Int):Prop:=H a=some (.lst (l.map V.int))
inductive g0(CG C:Addr)(mkv:Addr->Addr->List V)(al:Gr->Prop)(mk:Hp->List V->Vbavai.Call->Prop)(vs:List V)(H:Hp)(Q:VK)(E:XK):Prop
 | mk (a ar lm ln:Addr) (g:Gr) (xs:List V) (c:Vbavai.Call):vs=mkv a ar->nH CG H a lm ln g->il g->al g->H ar=some (.lst xs)->mk H xs c->Vbavai.ranged c=true->(∀(H':Hp)(p:Addr)(ans:List Int),Vbavai.act ⟨g⟩ c=(⟨g⟩,ans)->D1 H' p ans->aD H H'->Q (.ref p) H')->(∀(H':Hp)(dx:Addr)(e:Nat),Vbavai.act ⟨g⟩ c=(⟨g⟩,[-1000 - (e:Int)])->H' dx=some (.xd [("place",nat e)])->aD H H'->E (.ref C) (some dx) H')->g0 CG C mkv al mk vs H Q E
abbrev oA(a ar:Addr):List V:=[.ref a,.ref ar]
abbrev G6(_ ar:Addr):List V:=[.ref ar]
abbrev vT(a _:Addr):List V:=[.ref a]
abbrev dO(g:Gr):Prop:=Vbavai.alive g=true
inductive pN(H:Hp)(xs:List V)(c:Vbavai.Call):Prop
 | mk (t:Addr) (bs:List Nat):xs=[.ref t]->c=.holds (Vbavai.ints bs)->H t=some (.lst (bs.map nat))->pN H xs c
inductive vh(H:Hp)(xs:List V)(c:Vbavai.Call):Prop
 | mk (t:Addr) (bs:List Nat):xs=[.ref t]->c=.form (Vbavai.ints bs)->H t=some (.lst (bs.map nat))->vh H xs c
inductive vo(H:Hp)(xs:List V)(c:Vbavai.Call):Prop
 | mk (t u:Addr) (bs cs:List Nat):xs=[.ref t,.ref u]->c=.same (Vbavai.ints bs) (Vbavai.ints cs)->H t=some (.lst (bs.map nat))->H u=some (.lst (cs.map nat))->vo H xs c
inductive pX(H:Hp)(xs:List V)(c:Vbavai.Call):Prop
 | mk (i:Int) (t:Addr) (bs:List Nat):xs=[.int i,.ref t]->c=.shows i (Vbavai.ints bs)->H t=some (.lst (bs.map nat))->pX H xs c
theorem i7(bs:List Nat):(Vbavai.ints bs).map Int.toNat=bs:=by
 unfold Vbavai.ints;rw[Lc]
 conv=>rhs;rw[←List.map_id bs]
 exact List.map_congr_left fun a _=>rfl
theorem iq{bs:List Nat}(h:Vbavai.textIn (Vbavai.ints bs)=true):bs.length≤400∧∀b∈bs,b < 256:=by
 unfold Vbavai.textIn at h;rw[L7,LH,List.all_eq_true] at h;refine⟨by have:=h.1;unfold Vbavai.ints at this;rwa [Kv] at this,fun b hb=>?_⟩
 have:=h.2 (b:Int) (by unfold Vbavai.ints;exact Ls.mpr ⟨b,hb,rfl⟩)
 unfold Vbavai.inR at this;rw[L7,LH,LH] at this;omega
theorem m8{s:Vbavai.St}{bs:List Nat}{e:Nat}(k:Vbavai.F->List Int)(h:Vbavai.readAll bs=.error e):Vbavai.ofText s (Vbavai.ints bs) k=(s,[-1000 - (e:Int)]):=by
 unfold Vbavai.ofText;rw[i7,h]
theorem m3{s:Vbavai.St}{bs:List Nat}{f:Fm}(k:Vbavai.F->List Int)(h:Vbavai.readAll bs=.ok f)(hs:40 < Vbavai.size f):Vbavai.ofText s (Vbavai.ints bs) k=(s,[-5]):=by
 unfold Vbavai.ofText;rw[i7,h];dsimp only;rw[if_pos (show Vbavai.SIZE < Vbavai.size f from hs)]
theorem i9{s:Vbavai.St}{bs:List Nat}{f:Fm}(k:Vbavai.F->List Int)(h:Vbavai.readAll bs=.ok f)(hs:¬40 < Vbavai.size f):Vbavai.ofText s (Vbavai.ints bs) k=(s,k f):=by
 unfold Vbavai.ofText;rw[i7,h];dsimp only;rw[if_neg (show ¬Vbavai.SIZE < Vbavai.size f from hs)]
inductive gJ(CF:Addr)(vs:List V)(H:Hp)(Q:VK)(z3_:XK):Prop
 | mk (p:Addr) (n:Nat):vs=[.ref p]->sC CF H p n->Q (.bl (decide (40 < n))) H->gJ CF vs H Q z3_
theorem eY(l:List Nat):(V.int ((l.map nat).length:Int)::l.map nat)=(Vbavai.listed (Vbavai.ints l)).map V.int:=by
 unfold Vbavai.listed Vbavai.ints;rw[Kv,KR,Kv,Lc];rfl
theorem va(F:aK K mg "too_large" jW)(TF:zq K CF)(hG:∃t,mg "GREATEST_SIZE"=some (.int 40 t)):aS P w K mg base C 1 "too_large" ["formula"] (gJ CF):=by
 refine F.cal xh fun f cdv A outer s H vs Q E hr h=>?_;obtain⟨p,n,rfl,⟨dp,kp,lp,bp,hpo⟩,k⟩:=h;obtain⟨tg,hG⟩:=hG;refine⟨_,ai (aw (eE rE (aG (pv 0) rfl) (bo (v:=.int 40) rfl hG ⟨tg,rfl⟩) (aR _))),?_⟩;refine⟨_,rfl,p,CF,dp,_,_,rfl,hpo,TF.cl,TF.ns,rfl,_,_,rfl,rfl,?_⟩;show Q (.bl (decide ((40:Int) < (n:Int)))) H;rw[show decide ((40:Int) < (n:Int))=decide (40 < n) from decide_eq_decide.mpr (by omega)]
 exact k
theorem su(F:aK K mg "holds_call" iT)(cL:aS P w K mg base C 1 "too_large" ["formula"] (gJ CF))(cC:aS P w K mg base C 1 "counted" ["numbers"] cz)(cF:aS P w K mg base C 89 "formula_of" ["text"] (eR K C CF))
  (cT:aS P w K mg base C (40+4) "truth_of" ["graph","formula"] (kr CG CF 40))(cN:aS P w K mg base C 1 "nodes_where" ["truth"] mD):aS P w K mg base C 90 "holds_call" ["graph","arguments"] (g0 CG C oA dO pN):=by
 refine F.cal (k:=89) nA fun fa cdv A outer s H vs Q E hr h=>?_;obtain⟨a,ar,lm,ln,g,xs,c,rfl,G,GO,al,har,⟨t,bs,rfl,rfl,ht⟩,hc,k,kE⟩:=h;obtain⟨hlen,hb⟩:=iq hc;have nd:=nA.nd
 have act:Vbavai.act ⟨g⟩ (.holds (Vbavai.ints bs))=Vbavai.ofText ⟨g⟩ (Vbavai.ints bs) fun f=>Vbavai.listed (Vbavai.ints ((Vbavai.order g).filter (Vbavai.mem (Vbavai.sat g f)))):=by
  unfold Vbavai.act;dsimp only;rw[if_neg (by rw[show Vbavai.alive g=true from al];decide)]
 refine⟨_,ae (aE (i:=2) nd rfl (Or.inl rfl) (aj cF hr rfl bb (a8 (aY aF (pv 1) aA (fun _ _=>rfl)) aa)))
  (ae (aV (bQ (aj cL (hr.mono (by decide)) rfl ay (a8 (pv 2) aa))) (ai (aw (aN (a8 (bW bw aA) aa)))) aB)
  (ai (aw (aj cC (hr.mono (by decide)) rfl ay (a8 (aj cN (hr.mono (by decide)) rfl ay (a8 (aj cT (hr.mono (by decide)) rfl ay (a8 (pv 0) (a8 (pv 2) aa))) aa)) aa))))),?_⟩
 refine⟨_,rfl,ar,_,_,_,rfl,rfl,aH.of har,rfl,t,bs,rfl,aH.of ht,hlen,hb,fun f hf H1 p hp s1=>?_,fun e he H1 dx hx s1=>kE H1 dx e (act.trans (m8 _ he)) hx s1⟩;refine⟨_,rfl,p,_,rfl,hp.sz,_,rfl,?_⟩;refine de (fun h=>?_) (fun h=>?_)
 ·exact⟨_,rfl,fM,fun q hq=>k _ q _ (act.trans (m3 _ hf (Lm h))) a9 (s1.trans (ah hq))⟩
 ·have h40:¬(40 < Vbavai.size f):=fun z=>h (Ll z);refine⟨_,rfl,_,rfl,a,p,lm,ln,g,f,rfl,G.same s1,GO,hp,by omega,fun H2 t2 b2 s2=>?_⟩
  have g12:=GO.len;refine⟨t2,_,rfl,b2,by rw[VM.bc];omega,fun H3 t3 b3 s3=>?_⟩
  rw[VM.bc] at b3;refine⟨t3,_,rfl,b3,?_,fun H4 t4 b4 s4=>k H4 t4 _ (act.trans (i9 _ hf h40)) ?_ (((s1.trans s2).trans s3).trans s4)⟩
  ·rw[Kv];refine LI (Lg ..) ?_;rw[La];omega
  ·show H4 t4=_;rw[b4,eY];rfl
theorem ve(F:aK K mg "same_call" k6)(W:XW P w K mg base C)(cL:aS P w K mg base C 1 "too_large" ["formula"] (gJ CF))(cC:aS P w K mg base C 1 "counted" ["numbers"] cz)(cF:aS P w K mg base C 89 "formula_of" ["text"] (eR K C CF))
  (cT:aS P w K mg base C (40+4) "truth_of" ["graph","formula"] (kr CG CF 40))(cN:aS P w K mg base C 1 "nodes_where" ["truth"] mD)(cU:aS P w K mg base C 1 "unlike" ["first","second"] (eZ VM.fF)):aS P w K mg base C 90 "same_call" ["graph","arguments"] (g0 CG C oA dO vo):=by
 refine F.cal (k:=89) oF fun fa cdv A outer s H vs Q E hr h=>?_;obtain⟨a,ar,lm,ln,g,xs,c,rfl,G,GO,al,har,⟨t,u,bs,cs,rfl,rfl,ht,hu⟩,hc,k,kE⟩:=h;have hc:=Ly.mp hc;obtain⟨hlen,hb⟩:=iq hc.1;obtain⟨hlen2,hb2⟩:=iq hc.2;obtain⟨Nn,fI,fd,X,_,_,hm⟩:=W.ex;have nd:=oF.nd
 have act:∀r,(match Vbavai.readAll bs,Vbavai.readAll cs with
   | .ok f,.ok h=>if Vbavai.SIZE < Vbavai.size f∨Vbavai.SIZE < Vbavai.size h then((⟨g⟩:Vbavai.St),[-5]) else(⟨g⟩,Vbavai.listed (Vbavai.ints ((Vbavai.order g).filter fun i=>Vbavai.mem (Vbavai.sat g f) i != Vbavai.mem (Vbavai.sat g h) i)))
   | .error w,_=>(⟨g⟩,[-1000 - (w:Int)])
   | _,.error w=>(⟨g⟩,[-2000 - (w:Int)]))=r->Vbavai.act ⟨g⟩ (.same (Vbavai.ints bs) (Vbavai.ints cs))=r:=fun r h=>by
  unfold Vbavai.act;dsimp only;rw[if_neg (by rw[show Vbavai.alive g=true from al];decide),i7,i7]
  exact h
 let EE:XK:=fun _ dx H'=>∃d e,dx=some d∧Vbavai.readAll cs=.error e∧H' d=some (.xd [("place",nat e)])∧(∃f,Vbavai.readAll bs=.ok f)∧aD H H'
 refine⟨_,ae (aE (i:=2) nd rfl (Or.inl rfl) (aj cF hr rfl bb (a8 (aY aF (pv 1) aA (fun _ _=>rfl)) aa)))
  (ae (E5 (i:=4) (E:=EE) (tb:=BZ (jj (eR K C CF) [] EE (bZ (zj (uB K) (bL 1) (tC (.int 1))) gP)) (eI 3)) X rfl nd rfl rfl rfl rfl rfl hm
   (fun pn=>ai (aE (i:=3) nd rfl (Or.inl rfl) (aj cF hr rfl rb (a8 (aY aF (pv 1) aA (fun _ _=>rfl)) aa))))
   (fun pn x dx oe vs hc hd hdat=>ai (aw (aN (a8 (dD vG (bW bw aA) (Aw X KJ hc hd hdat (pv 4) rfl)) aa)))))
  (ae (aV (PW.pt (qf (bQ (aj cL (hr.mono (by decide)) rfl ay (a8 (pv 2) aa))) (lA (bQ (aj cL (hr.mono (by decide)) rfl ay (a8 (pv 3) aa)))))) (ai (aw (aN (a8 (bW bw aA) aa)))) aB)
  (ai (aw (aj cC (hr.mono (by decide)) rfl ay (a8 (aj cN (hr.mono (by decide)) rfl ay (a8 (aj cU (hr.mono (by decide)) rfl ay (a8 (aj cT (hr.mono (by decide)) rfl ay (a8 (pv 0) (a8 (pv 2) aa))) (a8 (aj cT (hr.mono (by decide)) rfl ay (a8 (pv 0) (a8 (pv 3) aa))) aa))) aa)) aa)))))),?_⟩
 refine⟨_,rfl,ar,_,_,_,rfl,rfl,aH.of har,rfl,t,bs,rfl,aH.of ht,hlen,hb,fun f hf H1 p hp s1=>?_,fun e he H1 dx hx s1=>kE H1 dx e (act _ (by rw[he])) hx s1⟩
 refine⟨⟨_,rfl,ar,_,_,_,rfl,rfl,aH.of (s1 _ _ har),rfl,u,cs,rfl,aH.of (s1 _ _ hu),hlen2,hb2,fun f2 hf2 H2 p2 hp2 s2=>?_,fun e he H2 dx hx s2=>⟨dx,e,rfl,he,hx,⟨f,hf⟩,s1.trans s2⟩⟩,fun σ' H2 x dx hl hE=>?_⟩
 ·have big:(40 < Vbavai.size f∨40 < Vbavai.size f2)->Vbavai.act ⟨g⟩ (.same (Vbavai.ints bs) (Vbavai.ints cs))=(⟨g⟩,[-5]):=fun z=>act _ (by rw[hf,hf2];dsimp only;rw[if_pos (show Vbavai.SIZE < Vbavai.size f∨Vbavai.SIZE < Vbavai.size f2 from z)])
  have hp1:=hp.same s2;refine⟨_,rfl,p,_,rfl,hp1.sz,_,rfl,?_⟩;refine de (fun h=>?_) (fun h=>?_)
  ·exact⟨_,rfl,fM,fun q hq=>k _ q _ (big (.inl (Lm h))) a9 ((s1.trans s2).trans (ah hq))⟩
  have h40:¬(40 < Vbavai.size f):=fun z=>h (Ll z);refine⟨_,rfl,p2,_,rfl,hp2.sz,_,rfl,?_⟩;refine de (fun h=>?_) (fun h=>?_)
  ·exact⟨_,rfl,fM,fun q hq=>k _ q _ (big (.inr (Lm h))) a9 ((s1.trans s2).trans (ah hq))⟩
  have h41:¬(40 < Vbavai.size f2):=fun z=>h (Ll z);have g12:=GO.len;refine⟨_,rfl,_,rfl,a,p,lm,ln,g,f,rfl,G.same (s1.trans s2),GO,hp1,by omega,fun H3 t3 b3 s3=>?_⟩
  refine⟨_,rfl,_,rfl,a,p2,lm,ln,g,f2,rfl,G.same ((s1.trans s2).trans s3),GO,hp2.same s3,by omega,fun H4 t4 b4 s4=>?_⟩
  refine⟨t3,t4,_,_,rfl,s4 _ _ b3,b4,by rw[VM.bc];omega,fun H5 t5 b5 s5=>?_⟩
  have lu:(VM.fF (Vbavai.sat g f) (Vbavai.sat g f2)).length=g.length:=VM.yK (VM.bc g f) (VM.bc g f2);refine⟨t5,_,rfl,b5,by rw[lu];omega,fun H6 t6 b6 s6=>?_⟩
  rw[lu] at b6;refine⟨t6,_,rfl,b6,?_,fun H7 t7 b7 s7=>k H7 t7 _ (act _ (by rw[hf,hf2];dsimp only;rw[if_neg (show ¬(Vbavai.SIZE < Vbavai.size f∨Vbavai.SIZE < Vbavai.size f2) from fun z=>z.elim h40 h41)])) ?_ ((((s1.trans s2).trans (s3.trans s4)).trans (s5.trans s6)).trans s7)⟩
  ·rw[Kv];refine LI (Lg ..) ?_;rw[La];omega
  ·show H7 t7=_
   have e:(List.range g.length).filter (Vbavai.mem (VM.fF (Vbavai.sat g f) (Vbavai.sat g f2)))=(Vbavai.order g).filter fun i=>Vbavai.mem (Vbavai.sat g f) i != Vbavai.mem (Vbavai.sat g f2) i :=
    List.filter_congr fun i hi=>VM.yB (by rw[VM.bc];exact List.mem_range.mp hi) (by rw[VM.bc];exact List.mem_range.mp hi)
   rw[b7,e,eY]
 ·obtain⟨d,e,hd,he,hx,⟨f,hf⟩,s1⟩:=hE;cases hd;have hl5:σ'.length=5:=hl;refine⟨_,rfl,_,LC (by omega),_,_,rfl,hx,rfl,_,_,rfl,rfl,fM,fun q hq=>k _ q [-2000 - (e:Int)] (act _ (by rw[hf,he])) a9 (s1.trans (ah hq))⟩
structure GX(CG:Addr)(H:Hp)(a lm ln:Addr)(ns:List Addr)(g:Gr):Prop where
 obj:∃dx,H a=some (.ins CG dx (K2 lm ln))
 marks:H lm=some (.lst (g.map fun n=>nat n.marks))
 len:ns.length=g.length
 nexts:H ln=some (.lst (ns.map V.ref))
 each:∀(i:Nat)(l:Addr)(nd:Vbavai.Node),ns[i]?=some l->g[i]?=some nd->H l=some (.lst (nd.next.map nat))
 sep:lm≠ln
 sepm:lm∉ns
 sepn:ln∉ns
 once:ns.Nodup
theorem GX.at{CG:Addr}{H:Hp}{a lm ln:Addr}{ns:List Addr}{g:Gr}(G:GX CG H a lm ln ns g):nH CG H a lm ln g:=⟨G.obj,G.marks,ns,G.len,G.nexts,G.each⟩
theorem GX.same{CG:Addr}{H H':Hp}{a lm ln:Addr}{ns:List Addr}{g:Gr}(G:GX CG H a lm ln ns g)(s:aD H H'):GX CG H' a lm ln ns g:=by
 obtain⟨⟨dx,h1⟩,h2,h3,h4,h5,h6,h7,h8,h9⟩:=G;exact⟨⟨dx,s _ _ h1⟩,s _ _ h2,h3,s _ _ h4,fun i l nd e1 e2=>s _ _ (h5 i l nd e1 e2),h6,h7,h8,h9⟩
def SG(lm ln:Addr)(H H':Hp):Prop:=∀b o,H b=some o->b≠lm->b≠ln->H' b=some o
theorem SG.of{lm ln:Addr}{H H':Hp}(s:aD H H'):SG lm ln H H':=fun b o e _ _=>s b o e
theorem SG.trans{lm ln:Addr}{H H1 H2:Hp}(a:SG lm ln H H1)(b:SG lm ln H1 H2):SG lm ln H H2:=fun c o e n m=>b c o (a c o e n m) n m
inductive jh(CG:Addr)(mk:List Int->Vbavai.Call->Prop)(vs:List V)(H:Hp)(Q:VK)(z3_:XK):Prop
 | mk (a ar lm ln:Addr) (ns:List Addr) (g:Gr) (xs:List Int) (c:Vbavai.Call):vs=[.ref a,.ref ar]->GX CG H a lm ln ns g->il g->D1 H ar xs->mk xs c->Vbavai.ranged c=true->(∀(H':Hp)(p:Addr)(ns':List Addr),GX CG H' a lm ln ns' (Vbavai.act ⟨g⟩ c).1.g->D1 H' p (Vbavai.act ⟨g⟩ c).2->SG lm ln H H'->Q (.ref p) H')->jh CG mk vs H Q z3_
inductive uI(xs:List Int)(c:Vbavai.Call):Prop
 | mk (m:_):xs=[m]->c=.node m->uI xs c
inductive yo(xs:List Int)(c:Vbavai.Call):Prop
 | mk (a b:_):xs=[a,b]->c=.edge a b->yo xs c
inductive DA(xs:List Int)(c:Vbavai.Call):Prop
 | mk (a b:_):xs=[a,b]->c=.cut a b->DA xs c
inductive uO(xs:List Int)(c:Vbavai.Call):Prop
 | mk (a b:_):xs=[a,b]->c=.marks a b->uO xs c
inductive yC(xs:List Int)(c:Vbavai.Call):Prop
 | mk (a:_):xs=[a]->c=.told a->yC xs c
theorem cb{x lo hi:Int}:Vbavai.inR x lo hi=true↔lo≤x∧x≤hi:=by
 unfold Vbavai.inR;rw[L7,LH,LH]
inductive mL(CG:Addr)(vs:List V)(H:Hp)(Q:VK)(z3_:XK):Prop
 | mk (a lm ln:Addr) (g:Gr) (i:Int):vs=[.ref a,.int i]->nH CG H a lm ln g->Q (.bl (decide (i < (g.length:Int)))) H->mL CG vs H Q z3_
inductive vE(CG:Addr)(vs:List V)(H:Hp)(Q:VK)(z3_:XK):Prop
 | mk (a lm ln:Addr) (g:Gr):vs=[.ref a]->nH CG H a lm ln g->il g->(∀H',aD H H'->Q (.bl (!Vbavai.alive g)) H')->vE CG vs H Q z3_
inductive vc(CG:Addr)(vs:List V)(H:Hp)(Q:VK)(z3_:XK):Prop
 | mk (a dx:Addr):vs=[.ref a]->H a=some (.ins CG dx [])->(∀(H':Hp)(lm ln:Addr),GX CG H' a lm ln [] []->SB a H H'->Q .non H')->vc CG vs H Q z3_
theorem Dh{α:Type}(l:List α):decide (V.int (l.length:Int)=V.int 0)=l.isEmpty:=by
 cases l with
 | nil=>exact Ll rfl
 | cons x r=>exact Ln fun h=>by injection h with h;simp at h;omega
theorem sr{f:Addr}{fd:FuncData}(F:yd K "__init__" "Graph.__init__" iS f fd)(TG:gw K CG):dh P w K mg base (ic P w C) 1 f fd ["self"] (vc CG):=by
 refine Gn F uT fun cdv A outer s H vs Q E hr h=>?_;obtain⟨a,dx,rfl,ha,k⟩:=h;refine⟨_,ae (eQ (pv 0) (aN aa) rfl) (ai (eQ (pv 0) (aN aa) rfl)),?_⟩;refine⟨GS,fun lm hlm=>⟨_,rfl,a,CG,dx,[],rfl,bj hlm ha,TG.cl,TG.nm,(by show 0 < 1000;decide),?_⟩⟩
 have am:lm≠a:=(aq ha hlm).symm;refine⟨GS,fun ln hln=>⟨_,rfl,a,CG,dx,_,rfl,bj hln a9,TG.cl,TG.nn,(by show 1 < 1000;decide),?_⟩⟩
 have an:a≠ln:=aq a9 hln;have e1:upd (upd H lm (.lst [])) a (.ins CG dx [("marks",.ref lm)]) lm=some (.lst []):=by rw[ak am,a9]
 have mn:lm≠ln:=aq e1 hln;refine k _ lm ln ⟨⟨dx,a9⟩,?_,rfl,?_,fun i l nd e=>by simp at e,mn,by simp,by simp,List.nodup_nil⟩ fun b o e hb=>?_
 ·rw[ak am,ak mn];exact e1
 ·rw[ak an.symm,a9];rfl
 ·have h2:upd (upd H lm (.lst [])) a (.ins CG dx [("marks",.ref lm)]) b=some o:=by rw[ak hb,ak (aq e hlm)];exact e
  rw[ak hb,ak (aq h2 hln)];exact h2
theorem xY(F:i6 K CG "has_node" "Graph.has_node" fe)(T:j3 mg)(TG:gw K CG):d4 P w K mg base C CG 1 "has_node" ["self","node"] (mL CG):=by
 refine F.cal oh fun f cdv A outer s H vs Q E hr h=>?_;obtain⟨a,lm,ln,g,i,rfl,G,k⟩:=h;obtain⟨dx,ho⟩:=G.obj;refine⟨_,ai (aw (eE Gj (pv 1) (aQ aU rfl T.len boot_len (a8 (aG (pv 0) rfl) aa)) (aR _))),?_⟩;refine⟨_,rfl,_,rfl,a,CG,dx,_,_,rfl,ho,TG.cl,TG.nm,rfl,lm,_,rfl,.inl (aH.of G.marks),_,_,rfl,rfl,?_⟩;rw[Kv];exact k
theorem pH(F:i6 K CG "has_dead_end" "Graph.has_dead_end" dB)(T:j3 mg)(TG:gw K CG):d4 P w K mg base C CG 1 "has_dead_end" ["self"] (vE CG):=by
 refine F.cal fA fun f cdv A outer s H vs Q E hr h=>?_;obtain⟨a,lm,ln,g,rfl,G,GO,k⟩:=h;obtain⟨dx,ho⟩:=G.obj;obtain⟨ns,nl,hn,each⟩:=G.nexts;have nd:=fA.nd
 refine⟨_,ai (aw (aQ (Cr rfl) rfl T.any boot_any (a8 (du (own:=[("ahead",1)]) (te:=zj JY (Jb (DJ K) (bZ (bL 1) gP)) (tC (.int 0))) rfl nd (bF (aG (pv 0) rfl)) (ba rfl)
  (fun _ _ _ _ _=>aO (i:=1) nd rfl (Or.inl rfl)) (fun _ _ _ _ _=>bP)
  (fun _ _ _ _ _=>eE bV (aQ aU rfl T.len boot_len (a8 (pv 1) aa)) aA (aR _))) aa))),?_⟩
 refine⟨_,rfl,a,CG,dx,_,_,rfl,ho,TG.cl,TG.nn,rfl,ln,rfl,⟨_,aH.of hn⟩,fun D hD=>?_⟩
 let bs:List Bool:=g.map fun x=>x.next.isEmpty
 have hz:(bs.map V.bl).length≤100000:=by rw[Kv,Kv];have:=GO.len;omega
 refine cj (K:=K) (a:=ln) (xs:=ns.map V.ref) (fun i H'=>H' D=some (.lst ((bs.map V.bl).take i))∧aD H H') ⟨a9,ah hD⟩ (fun i H' _ p=>aH.of (p.2 _ _ hn)) ?_ ?_
 ·rintro i v H' hv ⟨p1,p2⟩;rw[Kw] at hv;obtain⟨l,hli,rfl⟩:=KF.mp hv;have hi:i < g.length:=by rw[←nl];exact(KQ.mp hli).1
  have hg:=VM.aT hi;have hL:=p2 _ _ (each i l _ hli hg);refine⟨rfl,_,rfl,l,_,rfl,.inl (aH.of hL),rfl,?_⟩;refine bD hD p1 p2 ?_ hz;rw[Kw,Kw,hg];rw[Kv,Dh];rfl
 ·rintro H' ⟨p1,p2⟩;rw[KS (by rw[Kv,Kv,Kv];omega)] at p1
  refine⟨D,bs,rfl,aH.of p1,?_⟩
  have e:bs.any id=!Vbavai.alive g:=by
   unfold Vbavai.alive;rw[List.any_map,List.not_all_eq_any_not]
   congr 1
   funext x
   simp
  rw[e];exact k H' p2
structure HB(mg:Str->Option Value):Prop where
 nodes:∃t,mg "MOST_NODES"=some (.int 12 t)
 nexts:∃t,mg "MOST_NEXTS"=some (.int 4 t)
theorem GX.grow{CG:Addr}{H:Hp}{a lm ln q:Addr}{ns:List Addr}{g:Gr}{m:Nat}(G:GX CG H a lm ln ns g)(hq:upd H lm (.lst ((g.map fun n=>nat n.marks)++[nat m])) q=none) :
  GX CG (upd (upd (upd H lm (.lst ((g.map fun n=>nat n.marks)++[nat m]))) q (.lst [])) ln (.lst (ns.map V.ref++[V.ref q]))) a lm ln (ns++[q]) (g++[⟨m,[]⟩]):=by
 obtain⟨⟨dx,h1⟩,h2,h3,h4,h5,h6,h7,h8,h9⟩:=G;have al:a≠lm:=cK h1 h2 (by intro z;cases z)
 have an:a≠ln:=cK h1 h4 (by intro z;cases z)
 have old:∀b o,H b=some o->b≠lm->b≠q:=fun b o e n=>aq (o:=o) (by rw[ak n];exact e) hq
 have mq:lm≠q:=aq a9 hq;refine⟨⟨dx,by rw[ak an,ak (old _ _ h1 al),ak al];exact h1⟩,?_,by rw[Ky,Ky,h3];rfl,by rw[a9,KO];rfl,fun i l nd e1 e2=>?_,h6,?_,?_,?_⟩
 ·rw[ak h6,ak mq,a9,KO];rfl
 ·by_cases hi:i < ns.length
  ·rw[Lf hi] at e1;rw[Lf (by omega)] at e2
   have hl:=h5 i l nd e1 e2;have lin:=KA e1;have l1:l≠lm:=fun z=>h7 (z▸lin);have l2:l≠ln:=fun z=>h8 (z▸lin);rw[ak l2,ak (old _ _ hl l1),ak l1];exact hl
  ·rw[Le (by omega)] at e1 e2
   have hz:i - ns.length=0:=by
    rcases Nat.eq_zero_or_pos (i - ns.length) with z | z
    ·exact z
    ·rw[L8 (by simp;omega)] at e1;cases e1
   rw[hz] at e1;rw[←h3,hz] at e2;cases e1;cases e2;rw[ak (old _ _ h4 h6.symm).symm,a9];rfl
 ·intro z;rcases Lb.mp z with z | z
  ·exact h7 z
  ·exact mq (Lq.mp z)
 ·intro z;rcases Lb.mp z with z | z
  ·exact h8 z
  ·exact old _ _ h4 h6.symm (Lq.mp z)
 ·refine List.nodup_append.mpr ⟨h9,by simp,fun x hx y hy e=>?_⟩
  rw[Lq] at hy;subst hy;subst e;obtain⟨i,hi,e⟩:=List.getElem_of_mem hx;have hg:g[i]?=some g[i]:=Kz (by omega)
  have:=h5 i x _ (by rw[←e];exact Kz hi) hg
  exact old _ _ this (fun z=>h7 (z▸hx)) rfl
theorem zU{K:Frag}{H:Hp}{p:Addr}{xs:List V}(h:aH K H p xs):JU K "list" (.ref p) H:=.inl ⟨rfl,_,h⟩
theorem vk(F:aK K mg "node_call" jD)(T:j3 mg)(TG:gw K CG)(TB:HB mg):aS P w K mg base C 1 "node_call" ["graph","arguments"] (jh CG uI):=by
 refine F.cal wG fun f cdv A outer s H vs Q E hr h=>?_;obtain⟨a,ar,lm,ln,ns,g,xs,c,rfl,G,GO,har,⟨m,rfl,rfl⟩,hc,k⟩:=h;obtain⟨dx,ho⟩:=G.obj;obtain⟨t12,h12⟩:=TB.nodes;have hm:0≤m∧m≤15:=cb.mp hc
 refine⟨_,ae (aV (aI bV (aQ aU rfl T.len boot_len (a8 (aG (pv 0) rfl) aa)) (bo (v:=.int 12) rfl h12 ⟨t12,rfl⟩) (aR _)) (ai (aw (aN (a8 (bW bw aA) aa)))) aB)
  (ae (bH (fO PySem.F.plainAttrs_list PySem.F.slot_list_append PySem.F.type_list_append ck (aG (pv 0) rfl) (a8 (aY aF (pv 1) aA (fun _ _=>rfl)) aa)))
  (ae (bH (fO PySem.F.plainAttrs_list PySem.F.slot_list_append PySem.F.type_list_append ck (aG (pv 0) rfl) (a8 (aN aa) aa)))
  (ai (aw (aN (a8 (dD vG (aQ aU rfl T.len boot_len (a8 (aG (pv 0) rfl) aa)) aA) aa)))))),?_⟩
 refine⟨_,rfl,a,CG,dx,_,_,rfl,ho,TG.cl,TG.nm,rfl,lm,_,rfl,.inl (aH.of G.marks),rfl,_,rfl,?_⟩;refine de (fun h=>?_) (fun h=>?_)
 ·have e:12≤g.length:=by have:=Lm h;injection this with z;rw[Kv] at z;omega
  have ea:Vbavai.act ⟨g⟩ (.node m)=(⟨g⟩,[-4]):=by unfold Vbavai.act;dsimp only;rw[if_pos (show Vbavai.NODES≤g.length from e)]
  rw[ea] at k;exact⟨_,rfl,fM,fun q hq=>k _ q ns (G.same (ah hq)) a9 (SG.of (ah hq))⟩
 ·have e:g.length < 12:=by
   have:=GO.len;rcases Nat.lt_or_ge g.length 12 with z | z
   ·exact z
   ·exact absurd (Ll (by rw[Kv,show g.length=12 by omega];rfl)) h
  have ea:Vbavai.act ⟨g⟩ (.node m)=(⟨g++[⟨m.toNat,[]⟩]⟩,[(g.length:Int)]):=by unfold Vbavai.act;dsimp only;rw[if_neg (show ¬Vbavai.NODES≤g.length from by show ¬12≤_;omega)]
  rw[ea] at k;have em:V.int m=nat m.toNat:=by show V.int m=V.int _;rw[Int.toNat_of_nonneg hm.1]
  have al:a≠lm:=cK ho G.marks (by intro z;cases z)
  refine⟨_,rfl,a,CG,dx,_,_,rfl,ho,TG.cl,TG.nm,rfl,zU (aH.of G.marks),_,rfl,ar,_,_,_,rfl,rfl,aH.of har,rfl,lm,_,_,rfl,rfl,G.marks,br (by rw[Kv];omega),?_⟩
  rw[em];refine⟨_,rfl,a,CG,dx,_,_,rfl,(by rw[ak al];exact ho),TG.cl,TG.nn,rfl,zU (p:=ln) (aH.of (show upd H lm _ ln=some _ by rw[ak G.sep.symm];exact G.nexts)),GS,fun q hq=>?_⟩
  refine⟨ln,_,_,rfl,rfl,bj hq (by rw[ak G.sep.symm];exact G.nexts),br (by rw[Kv,G.len];omega),?_⟩
  have G2:=G.grow hq;obtain⟨dx2,ho2⟩:=G2.obj;refine⟨_,rfl,a,CG,dx2,_,_,rfl,ho2,TG.cl,TG.nm,rfl,lm,_,rfl,.inl (aH.of G2.marks),_,_,rfl,rfl,fM,fun p hp=>k _ p _ (G2.same (ah hp)) ?_ ?_⟩
  ·show upd _ p _ p=_;rw[a9,Kv,Ky];show some (HO.lst [V.int _])=some (HO.lst [V.int _])
   congr 4
   show((g.length+1:Nat):Int) - 1=_;omega
  ·refine SG.trans (fun b o e n1 n2=>?_) (SG.of (ah hp));have e1:upd H lm (.lst ((g.map fun n=>nat n.marks)++[nat m.toNat])) b=some o:=by rw[ak n1];exact e
   rw[ak n2,ak (aq e1 hq)];exact e1
end Can
namespace VM
open Vbavai
theorem pM{n:Nat}:∀{l:List Nat}{x:Nat},x∈put n l↔x=n∨x∈l
 | [],x=>by simp[put]
 | m::r,x=>by
  unfold put
  by_cases h1:n < m
  ·rw[if_pos h1];simp
  ·rw[if_neg h1]
   by_cases h2:n=m
   ·rw[if_pos h2];subst h2;simp
   ·rw[if_neg h2,List.mem_cons,pM,List.mem_cons]
    constructor
    ·rintro(h | h | h)
     ·exact .inr (.inl h)
     ·exact .inl h
     ·exact .inr (.inr h)
    ·rintro(h | h | h)
     ·exact .inr (.inl h)
     ·exact .inl h
     ·exact .inr (.inr h)
theorem vF{n:Nat}:∀{l:List Nat},l.Pairwise (· < ·)->(put n l).Pairwise (· < ·)
 | [],_=>by simp[put]
 | m::r,h=>by
  rw[List.pairwise_cons] at h;unfold put
  by_cases h1:n < m
  ·rw[if_pos h1,List.pairwise_cons,List.pairwise_cons];refine⟨fun x hx=>?_,h⟩;rcases List.mem_cons.mp hx with e | e
   ·omega
   ·have:=h.1 x e;omega
  ·rw[if_neg h1]
   by_cases h2:n=m
   ·rw[if_pos h2,List.pairwise_cons];exact h
   ·rw[if_neg h2,List.pairwise_cons];refine⟨fun x hx=>?_,vF h.2⟩;rcases pM.mp hx with e | e
    ·omega
    ·exact h.1 x e
theorem rf{n:Nat}:∀{l:List Nat},n∉l->(put n l).Perm (n::l)
 | [],_=>by simp[put]
 | m::r,h=>by
  unfold put
  by_cases h1:n < m
  ·rw[if_pos h1]
  ·rw[if_neg h1,if_neg (show ¬n=m from fun e=>h (e▸KJ))]
   exact((rf fun z=>h (KH _ z)).cons m).trans (List.Perm.swap ..)
theorem FI{n:Nat}{l:List Nat}(h:n∉l):(put n l).length=l.length+1:=by rw[(rf h).length_eq];rfl
theorem zm{n:Nat}{l:List Nat}{xs:List Int}(hl:l.Pairwise (· < ·))(hn:n∉l)(hp:xs.Perm ((l.map fun j:Nat=>(j:Int))++[(n:Int)]))(hs:xs.Pairwise (·≤·)):xs=(put n l).map fun j:Nat=>(j:Int):=by
 refine List.Perm.eq_of_pairwise (le:=fun a b:Int=>a≤b) (fun a b _ _ h1 h2=>Int.le_antisymm h1 h2) hs ?_ (hp.trans ?_)
 ·rw[List.pairwise_map];exact(vF hl).imp fun{a b} h=>by omega
 ·refine List.Perm.trans ?_ ((rf hn).map _).symm;rw[KR];exact(List.perm_append_comm (l₁:=(l.map fun j:Nat=>(j:Int))) (l₂:=[(n:Int)]))
end VM
namespace Can
open PySem PySem.Spec PyProof.Rows L2 XL
variable{P:Program}{w:World}{K:Frag}{mg:Str->Option Value}{base:Heap}{C CG CF CT CR CY:Addr}
theorem zp{n:Nat}{i:Int}(h0:0≤i)(h1:i < n):Ef n i=some i.toNat:=by unfold Ef;rw[if_pos h0,if_pos h1]
theorem rF{xs:List V}{i:Int}{v:V}(h0:0≤i)(h:xs[i.toNat]?=some v):yb xs i=some v:=Dx (Int.toNat_of_nonneg h0).symm h
theorem om{l:List Nat}{b:Int}(h:0≤b):nI (.int b) (l.map nat)=l.contains b.toNat:=by
 unfold nI
 induction l with
 | nil=>rfl
 | cons x r ih =>
  rw[KR,List.any_cons,ih,List.contains_cons]
  congr 1
  show((x:Int)==b)=(b.toNat==x);rw[Bool.eq_iff_iff,beq_iff_eq,beq_iff_eq];omega
theorem iB{l:List Nat}:(l.map nat).all ie=true:=by
 rw[List.all_eq_true];intro x hx;obtain⟨n,_,rfl⟩:=Ls.mp hx;rfl
theorem GX.remark{CG:Addr}{H:Hp}{a lm ln:Addr}{ns:List Addr}{g:Gr}{i m:Nat}(G:GX CG H a lm ln ns g)(hi:i < g.length) :
  GX CG (upd H lm (.lst ((g.map fun n=>nat n.marks).set i (nat m)))) a lm ln ns (g.set i {nodeAt g i with marks:=m}):=by
 obtain⟨⟨dx,h1⟩,h2,h3,h4,h5,h6,h7,h8,h9⟩:=G;have al:a≠lm:=cK h1 h2 (by intro z;cases z)
 refine⟨⟨dx,by rw[ak al];exact h1⟩,by rw[a9,List.map_set],by rw[LB];exact h3,by rw[ak h6.symm];exact h4,fun j l nd e1 e2=>?_,h6,h7,h8,h9⟩
 have l1:l≠lm:=fun z=>h7 (z▸KA e1);rw[ak l1]
 by_cases e:i=j
 ·subst e;rw[LC hi] at e2;cases e2;exact h5 i l (nodeAt g i) e1 (VM.aT hi)
 ·rw[LD e] at e2;exact h5 j l nd e1 e2
theorem GX.relist{CG:Addr}{H:Hp}{a lm ln q:Addr}{ns:List Addr}{g:Gr}{i:Nat}{nx:List Nat}(G:GX CG H a lm ln ns g)(hi:i < g.length)(hq:H q=some (.lst (nx.map nat)))(hqm:q≠lm)(hqn:q≠ln)(hqs:q∉ns) :
  GX CG (upd H ln (.lst ((ns.map V.ref).set i (.ref q)))) a lm ln (ns.set i q) (g.set i {nodeAt g i with next:=nx}):=by
 obtain⟨⟨dx,h1⟩,h2,h3,h4,h5,h6,h7,h8,h9⟩:=G;have an:a≠ln:=cK h1 h4 (by intro z;cases z)
 have mem:∀x,x∈ns.set i q->x∈ns∨x=q:=fun x hx=>List.mem_or_eq_of_mem_set hx;refine⟨⟨dx,by rw[ak an];exact h1⟩,?_,by rw[LB,LB];exact h3,by rw[a9,List.map_set],fun j l nd e1 e2=>?_,h6,?_,?_,?_⟩
 ·rw[ak h6,h2,List.map_set]
  congr 2
  refine(List.ext_getElem? fun k=>?_)
  by_cases e:i=k
  ·subst e;rw[LC (by rw[Kv];exact hi),Kw,VM.aT hi]
   rfl
  ·rw[LD e]
 ·by_cases e:i=j
  ·subst e;rw[LC (by omega)] at e1
   rw[LC hi] at e2;cases e1;cases e2;rw[ak hqn];exact hq
  ·rw[LD e] at e1 e2;have l2:l≠ln:=fun z=>h8 (z▸KA e1);rw[ak l2];exact h5 j l nd e1 e2
 ·intro z;rcases mem _ z with z | z
  ·exact h7 z
  ·exact hqm z.symm
 ·intro z;rcases mem _ z with z | z
  ·exact h8 z
  ·exact hqn z.symm
 ·unfold List.Nodup at h9 ⊢;rw[List.pairwise_iff_getElem] at h9 ⊢;intro x y hx hy hxy;rw[List.getElem_set,List.getElem_set];rw[LB] at hx hy
  by_cases ex:i=x
  ·rw[if_pos ex,if_neg (by omega)]
   exact fun z=>hqs (z▸List.getElem_mem hy)
  ·rw[if_neg ex]
   by_cases ey:i=y
   ·rw[if_pos ey];exact fun z=>hqs (z▸List.getElem_mem hx)
   ·rw[if_neg ey];exact h9 x y hx hy hxy
theorem sA(F:aK K mg "marks_call" jb)(TG:gw K CG)(cH:d4 P w K mg base C CG 1 "has_node" ["self","node"] (mL CG)):aS P w K mg base C 2 "marks_call" ["graph","arguments"] (jh CG uO):=by
 refine F.cal (k:=1) nD fun f cdv A outer s H vs Q E hr h=>?_;obtain⟨a,ar,lm,ln,ns,g,xs,c,rfl,G,GO,har,⟨i,m,rfl,rfl⟩,hc,k⟩:=h;obtain⟨dx,ho⟩:=G.obj;have nd:=nD.nd;have hc:=(Ly.mp hc);have hi:0≤i∧i≤11:=cb.mp hc.1;have hm:0≤m∧m≤15:=cb.mp hc.2
 refine⟨_,ae (aE (i:=2) nd rfl (Or.inl rfl) (aY aF (pv 1) aA (fun _ _=>rfl)))
  (ae (aV (dP (bQ (gM (pv 0) TG.cl cH hr ay (a8 (pv 2) aa)))) (ai (aw (aN (a8 (bW bw aA) aa)))) aB)
  (ae (yN (aY aF (pv 1) aA (fun _ _=>rfl)) (yi (aG (pv 0) rfl) (pv 2) qz))
  (ai (aw (aN (a8 aA aa)))))),?_⟩
 refine⟨_,rfl,ar,_,_,_,rfl,rfl,aH.of har,rfl,?_⟩;refine⟨_,rfl,a,dx,_,rfl,ho,rfl,_,rfl,a,lm,ln,g,i,rfl,G.at,_,rfl,?_⟩;refine de (fun h=>?_) (fun h=>?_)
 ·have e:(g.length:Int)≤i:=by
   rw[L5,L6] at h;omega
  have ea:Vbavai.act ⟨g⟩ (.marks i m)=(⟨g⟩,[-3]):=by unfold Vbavai.act;dsimp only;rw[if_pos e]
  rw[ea] at k;exact⟨_,rfl,fM,fun q hq=>k _ q ns (G.same (ah hq)) a9 (SG.of (ah hq))⟩
 ·have e:i < (g.length:Int):=by
   rw[L5,L6] at h;omega
  have ea:Vbavai.act ⟨g⟩ (.marks i m)=(⟨g.set i.toNat {nodeAt g i.toNat with marks:=m.toNat}⟩,[0]):=by unfold Vbavai.act;dsimp only;rw[if_neg (by omega)];rfl
  rw[ea] at k;have em:V.int m=nat m.toNat:=by show V.int m=V.int _;rw[Int.toNat_of_nonneg hm.1]
  refine⟨_,rfl,ar,_,_,_,rfl,rfl,aH.of har,rfl,?_⟩;rw[em];refine⟨_,rfl,a,CG,dx,_,_,rfl,ho,TG.cl,TG.nm,rfl,_,rfl,lm,_,i,i.toNat,rfl,rfl,G.marks,zp hi.1 (by rw[Kv];exact e),?_⟩
  have G2:=G.remark (i:=i.toNat) (m:=m.toNat) (by omega)
  refine⟨fM,fun p hp=>k _ p _ (G2.same (ah hp)) a9 (SG.trans (fun b o e n1 n2=>by rw[ak n1];exact e) (SG.of (ah hp)))⟩
theorem tH{CG:Addr}{H:Hp}{a lm ln q:Addr}{ns:List Addr}{g:Gr}(G:GX CG H a lm ln ns g)(hq:H q=none):q≠lm∧q≠ln∧q∉ns:=by
 refine⟨(aq G.marks hq).symm,(aq G.nexts hq).symm,fun hx=>?_⟩;obtain⟨i,hi,e⟩:=List.getElem_of_mem hx;have hi2:i < g.length:=by have:=G.len;omega
 have hg:g[i]?=some g[i]:=Kz hi2;have:=G.each i q _ (by rw[←e];exact Kz hi) hg
 rw[hq] at this;cases this
theorem GX.list{CG:Addr}{H:Hp}{a lm ln:Addr}{ns:List Addr}{g:Gr}{i:Nat}(G:GX CG H a lm ln ns g)(hi:i < g.length):∃l,(ns.map V.ref)[i]?=some (.ref l)∧H l=some (.lst ((nodeAt g i).next.map nat))∧l≠ln:=by
 have hl:=G.len;have e:ns[i]?=some ns[i]:=Kz (by omega)
 exact⟨ns[i],by rw[Kw,e];rfl,G.each i _ _ e (VM.aT hi),fun z=>G.sepn (z▸KA e)⟩
theorem ux(F:aK K mg "told_call" jY)(T:j3 mg)(TG:gw K CG)(cH:d4 P w K mg base C CG 1 "has_node" ["self","node"] (mL CG))(cC:aS P w K mg base C 1 "counted" ["numbers"] cz):aS P w K mg base C 2 "told_call" ["graph","arguments"] (jh CG yC):=by
 refine F.cal (k:=1) oW fun f cdv A outer s H vs Q E hr h=>?_;obtain⟨a,ar,lm,ln,ns,g,xs,c,rfl,G,GO,har,⟨i,rfl,rfl⟩,hc,k⟩:=h;obtain⟨dx,ho⟩:=G.obj;have nd:=oW.nd;have hi:0≤i∧i≤11:=cb.mp hc
 refine⟨_,ae (aE (i:=2) nd rfl (Or.inl rfl) (aY aF (pv 1) aA (fun _ _=>rfl)))
  (ae (aV (dP (bQ (gM (pv 0) TG.cl cH hr ay (a8 (pv 2) aa)))) (ai (aw (aN (a8 (bW bw aA) aa)))) aB)
  (ai (aw (dD gS (aN (a8 (aY aF (aG (pv 0) rfl) (pv 2) (fun _ _=>rfl)) aa)) (aj cC hr rfl ay (a8 (aY aF (aG (pv 0) rfl) (pv 2) (fun _ _=>rfl)) aa)))))),?_⟩
 refine⟨_,rfl,ar,_,_,_,rfl,rfl,aH.of har,rfl,?_⟩;refine⟨_,rfl,a,dx,_,rfl,ho,rfl,_,rfl,a,lm,ln,g,i,rfl,G.at,_,rfl,?_⟩;refine de (fun h=>?_) (fun h=>?_)
 ·have e:(g.length:Int)≤i:=by
   rw[L5,L6] at h;omega
  have ea:Vbavai.act ⟨g⟩ (.told i)=(⟨g⟩,[-3]):=by unfold Vbavai.act;dsimp only;rw[if_pos e]
  rw[ea] at k;exact⟨_,rfl,fM,fun q hq=>k _ q ns (G.same (ah hq)) a9 (SG.of (ah hq))⟩
 ·have e:i < (g.length:Int):=by
   rw[L5,L6] at h;omega
  have hi2:i.toNat < g.length:=by omega
  have ea:Vbavai.act ⟨g⟩ (.told i)=(⟨g⟩,((nodeAt g i.toNat).marks:Int)::Vbavai.listed (Vbavai.ints (nodeAt g i.toNat).next)):=by unfold Vbavai.act;dsimp only;rw[if_neg (by omega)]
  rw[ea] at k;obtain⟨l,hl,hL,_⟩:=G.list hi2;have h4:(nodeAt g i.toNat).next.length≤4:=GO.out _ (KA (VM.aT hi2));refine⟨_,rfl,a,CG,dx,_,_,rfl,ho,TG.cl,TG.nm,rfl,_,rfl,lm,_,_,_,rfl,rfl,aH.of G.marks,rF hi.1 (by rw[Kw,VM.aT hi2];rfl),fM,fun q hq=>?_⟩
  have s1:=ah (o:=.lst [nat (nodeAt g i.toNat).marks]) hq;refine⟨_,rfl,a,CG,dx,_,_,rfl,s1 _ _ ho,TG.cl,TG.nn,rfl,_,rfl,ln,_,_,_,rfl,rfl,aH.of (s1 _ _ G.nexts),rF hi.1 hl,l,_,rfl,s1 _ _ hL,(by rw[Kv];omega),fun H2 c hc2 s2=>?_⟩
  refine⟨q,c,_,_,rfl,rfl,s2 _ _ a9,hc2,LR (br (by simp only[Kx,Kv,L0];omega)),fun p hp=>k _ p ns (G.same ((s1.trans s2).trans (ah hp))) ?_ (SG.of ((s1.trans s2).trans (ah hp)))⟩
  show upd _ p _ p=_;rw[a9];unfold Vbavai.listed Vbavai.ints;rw[Kv,KR,KR,Kv,Lc];rfl
theorem uz(F:aK K mg "edge_call" jF)(T:j3 mg)(TG:gw K CG)(TB:HB mg)(cH:d4 P w K mg base C CG 1 "has_node" ["self","node"] (mL CG)):aS P w K mg base C 2 "edge_call" ["graph","arguments"] (jh CG yo):=by
 refine F.cal (k:=1) oK fun f cdv A outer s H vs Q E hr h=>?_;obtain⟨a,ar,lm,ln,ns,g,xs,c,rfl,G,GO,har,⟨i,j,rfl,rfl⟩,hc,k⟩:=h;obtain⟨dx,ho⟩:=G.obj;obtain⟨t4,h4⟩:=TB.nexts;have nd:=oK.nd;have hc:=(Ly.mp hc);have hi:0≤i∧i≤11:=cb.mp hc.1;have hj:0≤j∧j≤11:=cb.mp hc.2
 refine⟨_,ae (aE (i:=2) nd rfl (Or.inl rfl) (aY aF (pv 1) aA (fun _ _=>rfl)))
  (ae (aE (i:=3) nd rfl (Or.inl rfl) (aY aF (pv 1) aA (fun _ _=>rfl)))
  (ae (aV (PW.pt (qf (dP (bQ (gM (pv 0) TG.cl cH hr ay (a8 (pv 2) aa)))) (lA (dP (bQ (gM (pv 0) TG.cl cH hr ay (a8 (pv 3) aa))))))) (ai (aw (aN (a8 (bW bw aA) aa)))) aB)
  (ae (aV (aI ee (pv 3) (aY aF (aG (pv 0) rfl) (pv 2) (fun _ _=>rfl)) rfl) (ai (aw (aN (a8 (bW bw aA) aa)))) aB)
  (ae (aV (aI bV (aQ aU rfl T.len boot_len (a8 (aY aF (aG (pv 0) rfl) (pv 2) (fun _ _=>rfl)) aa)) (bo (v:=.int 4) rfl h4 ⟨t4,rfl⟩) (aR _)) (ai (aw (aN (a8 (bW bw aA) aa)))) aB)
  (ae (yN (aQ BP rfl T.sorted boot_sorted (a8 (dD gS (aY aF (aG (pv 0) rfl) (pv 2) (fun _ _=>rfl)) (aN (a8 (pv 3) aa))) aa)) (yi (aG (pv 0) rfl) (pv 2) qz))
  (ai (aw (aN (a8 aA aa))))))))),?_⟩
 refine⟨_,rfl,ar,_,_,_,rfl,rfl,aH.of har,rfl,_,rfl,ar,_,_,_,rfl,rfl,aH.of har,rfl,?_⟩
 have refuse:∀(z:Int),Vbavai.act ⟨g⟩ (.edge i j)=(⟨g⟩,[z])->∀q,H q=none->Q (.ref q) (upd H q (.lst [.int z])):=fun z ez q hq=>by
  rw[ez] at k;exact k _ q ns (G.same (ah hq)) a9 (SG.of (ah hq))
 refine⟨_,rfl,a,dx,_,rfl,ho,rfl,_,rfl,a,lm,ln,g,i,rfl,G.at,_,rfl,?_⟩;refine de (fun h=>?_) (fun h=>?_)
 ·rw[L5,L6] at h;exact⟨_,rfl,fM,refuse (-3) (by unfold Vbavai.act;dsimp only;rw[if_pos (.inl (by omega))])⟩
 rw[L5,L6] at h;have ei:i < (g.length:Int):=by omega
 refine⟨_,rfl,a,dx,_,rfl,ho,rfl,_,rfl,a,lm,ln,g,j,rfl,G.at,_,rfl,?_⟩;refine de (fun h=>?_) (fun h=>?_)
 ·rw[L5,L6] at h;exact⟨_,rfl,fM,refuse (-3) (by unfold Vbavai.act;dsimp only;rw[if_pos (.inr (by omega))])⟩
 rw[L5,L6] at h;have ej:j < (g.length:Int):=by omega
 have hi2:i.toNat < g.length:=by omega
 obtain⟨l,hl,hL,hln⟩:=G.list hi2;have hmem:=KA (VM.aT hi2);have l4:(nodeAt g i.toNat).next.length≤4:=GO.out _ hmem;have hno:¬((g.length:Int)≤i∨(g.length:Int)≤j):=by omega
 refine⟨_,rfl,_,rfl,a,CG,dx,_,_,rfl,ho,TG.cl,TG.nn,rfl,_,rfl,ln,_,_,_,rfl,rfl,aH.of G.nexts,rF hi.1 hl,l,_,rfl,.inl (aH.of hL),rfl,iB,_,rfl,?_⟩;refine de (fun h=>?_) (fun h=>?_)
 ·have hin:(nodeAt g i.toNat).next.contains j.toNat=true:=by rw[←om hj.1];exact h
  exact⟨_,rfl,fM,refuse (-5) (by unfold Vbavai.act;dsimp only;rw[if_neg hno,if_pos hin])⟩
 have hout:¬(nodeAt g i.toNat).next.contains j.toNat=true:=by rw[←om hj.1];exact h
 refine⟨_,rfl,a,CG,dx,_,_,rfl,ho,TG.cl,TG.nn,rfl,_,rfl,ln,_,_,_,rfl,rfl,aH.of G.nexts,rF hi.1 hl,l,_,rfl,.inl (aH.of hL),rfl,_,rfl,?_⟩;refine de (fun h=>?_) (fun h=>?_)
 ·have h4:Vbavai.OUT≤(nodeAt g i.toNat).next.length:=by have:=Lm h;injection this with z;rw[Kv] at z;show 4≤_;omega
  exact⟨_,rfl,fM,refuse (-6) (by unfold Vbavai.act;dsimp only;rw[if_neg hno,if_neg hout,if_pos h4])⟩
 have h4:¬Vbavai.OUT≤(nodeAt g i.toNat).next.length:=fun z=>h (Ll (by
  rw[Kv,show(nodeAt g i.toNat).next.length=4 from Nat.le_antisymm l4 z];rfl))
 have ea:Vbavai.act ⟨g⟩ (.edge i j)=(⟨g.set i.toNat {nodeAt g i.toNat with next:=Vbavai.put j.toNat (nodeAt g i.toNat).next}⟩,[0]):=by
  unfold Vbavai.act;dsimp only;rw[if_neg hno,if_neg hout,if_neg h4];rfl
 rw[ea] at k;have ej2:V.int j=nat j.toNat:=by show V.int j=V.int _;rw[Int.toNat_of_nonneg hj.1]
 have hnm:j.toNat∉(nodeAt g i.toNat).next:=fun z=>hout (LQ.mpr z);refine⟨_,rfl,a,CG,dx,_,_,rfl,ho,TG.cl,TG.nn,rfl,_,rfl,ln,_,_,_,rfl,rfl,aH.of G.nexts,rF hi.1 hl,_,rfl,fM,fun q hq=>?_⟩;refine⟨l,q,_,_,rfl,rfl,bj hq hL,a9,LR (br (by rw[Kv];show _+1 < _;omega)),fun p hp=>?_⟩
 refine⟨p,((nodeAt g i.toNat).next.map fun x:Nat=>(x:Int))++[(j.toNat:Int)],rfl,aH.of (by rw[a9,ej2,KO,Lc];rfl),(by rw[Ky,Kv];show _+1 < _;omega),fun xs r hpm hpw hr2=>?_⟩
 have hx:=VM.zm (GO.ord _ hmem) hnm hpm hpw;have s3:=((ah (o:=.lst [V.int j]) hq).trans (ah (o:=.lst (((nodeAt g i.toNat).next.map nat)++[V.int j])) hp)).trans (ah (o:=.lst (xs.map V.int)) hr2);have G3:=G.same s3;obtain⟨r1,r2,r3⟩:=tH ((G.same (ah (o:=.lst [V.int j]) hq)).same (ah (o:=.lst (((nodeAt g i.toNat).next.map nat)++[V.int j])) hp)) hr2;have G4:=G3.relist (i:=i.toNat) (q:=r) (nx:=Vbavai.put j.toNat (nodeAt g i.toNat).next) hi2 (by rw[a9,hx,Lc];rfl) r1 r2 r3
 refine⟨_,rfl,a,CG,dx,_,_,rfl,s3 _ _ ho,TG.cl,TG.nn,rfl,_,rfl,ln,_,_,i.toNat,rfl,rfl,G3.nexts,zp hi.1 (by rw[Kv,G.len];exact ei),?_⟩
 refine⟨fM,fun t ht=>k _ t _ (G4.same (ah ht)) a9 (SG.trans (SG.of s3) (SG.trans (fun b o e n1 n2=>by rw[ak n2];exact e) (SG.of (ah ht))))⟩
theorem Cs{x:Nat}{j:Int}(h:0≤j):(!decide (nat x=V.int j))=(x != j.toNat):=by
 show(!decide (V.int (x:Int)=V.int j))=!(x==j.toNat);rw[uA]
 congr 1
 rw[Bool.eq_iff_iff,beq_iff_eq,beq_iff_eq];omega
theorem wm(F:aK K mg "cut_call" lG)(T:j3 mg)(TG:gw K CG)(cH:d4 P w K mg base C CG 1 "has_node" ["self","node"] (mL CG)):aS P w K mg base C 2 "cut_call" ["graph","arguments"] (jh CG DA):=by
 refine F.cal (k:=1) qB fun f cdv A outer s H vs Q E hr h=>?_;obtain⟨a,ar,lm,ln,ns,g,xs,c,rfl,G,GO,har,⟨i,j,rfl,rfl⟩,hc,k⟩:=h;obtain⟨dx,ho⟩:=G.obj;have nd:=qB.nd;have hc:=(Ly.mp hc);have hi:0≤i∧i≤11:=cb.mp hc.1;have hj:0≤j∧j≤11:=cb.mp hc.2
 refine⟨_,ae (aE (i:=2) nd rfl (Or.inl rfl) (aY aF (pv 1) aA (fun _ _=>rfl)))
  (ae (aE (i:=3) nd rfl (Or.inr rfl) (aY aF (pv 1) aA (fun _ _=>rfl)))
  (ae (aV (PW.pt (qf (dP (bQ (gM (pv 0) TG.cl cH hr ay (a8 (pv 2) aa)))) (lA (dP (bQ (gM (pv 0) TG.cl cH hr ay (a8 (pv 3) aa))))))) (ai (aw (aN (a8 (bW bw aA) aa)))) aB)
  (ae (aV (aI fP (pv 3) (aY aF (aG (pv 0) rfl) (pv 2) (fun _ _=>rfl)) rfl) (ai (aw (aN (a8 (bW bw aA) aa)))) aB)
  (ae (yN (du (own:=[("other",4)]) rfl nd (bF (aY aF (aG (pv 0) rfl) (pv 2) (fun _ _=>rfl))) (ba rfl)
   (fun _ _ _ _ _=>aO (i:=4) nd rfl (Or.inl rfl)) (fun _ _ _ _ _=>iN (aI qI (pv 4) (pv 3) (aR _))) (fun _ _ _ _ _=>pv 4)) (yi (aG (pv 0) rfl) (pv 2) qz))
  (ai (aw (aN (a8 aA aa)))))))),?_⟩
 refine⟨_,rfl,ar,_,_,_,rfl,rfl,aH.of har,rfl,_,rfl,ar,_,_,_,rfl,rfl,aH.of har,rfl,?_⟩
 have refuse:∀(z:Int),Vbavai.act ⟨g⟩ (.cut i j)=(⟨g⟩,[z])->∀q,H q=none->Q (.ref q) (upd H q (.lst [.int z])):=fun z ez q hq=>by
  rw[ez] at k;exact k _ q ns (G.same (ah hq)) a9 (SG.of (ah hq))
 refine⟨_,rfl,a,dx,_,rfl,ho,rfl,_,rfl,a,lm,ln,g,i,rfl,G.at,_,rfl,?_⟩;refine de (fun h=>?_) (fun h=>?_)
 ·rw[L5,L6] at h;exact⟨_,rfl,fM,refuse (-3) (by unfold Vbavai.act;dsimp only;rw[if_pos (.inl (by omega))])⟩
 rw[L5,L6] at h;have ei:i < (g.length:Int):=by omega
 refine⟨_,rfl,a,dx,_,rfl,ho,rfl,_,rfl,a,lm,ln,g,j,rfl,G.at,_,rfl,?_⟩;refine de (fun h=>?_) (fun h=>?_)
 ·rw[L5,L6] at h;exact⟨_,rfl,fM,refuse (-3) (by unfold Vbavai.act;dsimp only;rw[if_pos (.inr (by omega))])⟩
 rw[L5,L6] at h;have ej:j < (g.length:Int):=by omega
 have hi2:i.toNat < g.length:=by omega
 obtain⟨l,hl,hL,hln⟩:=G.list hi2;have hmem:=KA (VM.aT hi2);have l4:(nodeAt g i.toNat).next.length≤4:=GO.out _ hmem;have hno:¬((g.length:Int)≤i∨(g.length:Int)≤j):=by omega
 refine⟨_,rfl,_,rfl,a,CG,dx,_,_,rfl,ho,TG.cl,TG.nn,rfl,_,rfl,ln,_,_,_,rfl,rfl,aH.of G.nexts,rF hi.1 hl,l,_,rfl,.inl (aH.of hL),rfl,iB,_,rfl,?_⟩;refine de (fun h=>?_) (fun h=>?_)
 ·have hin:(nodeAt g i.toNat).next.contains j.toNat=false:=by
   have:(!nI (.int j) ((nodeAt g i.toNat).next.map nat))=true:=h;rw[om hj.1] at this;simpa using this
  exact⟨_,rfl,fM,refuse (-5) (by unfold Vbavai.act;dsimp only;rw[if_neg hno,if_pos hin])⟩
 have hin:¬(nodeAt g i.toNat).next.contains j.toNat=false:=fun z=>h (by
  show(!nI (.int j) ((nodeAt g i.toNat).next.map nat))=true;rw[om hj.1,z];rfl)
 have ea:Vbavai.act ⟨g⟩ (.cut i j)=(⟨g.set i.toNat {nodeAt g i.toNat with next:=(nodeAt g i.toNat).next.filter fun x=>x != j.toNat}⟩,[0]):=by
  unfold Vbavai.act;dsimp only;rw[if_neg hno,if_neg hin];rfl
 rw[ea] at k;refine⟨_,rfl,a,CG,dx,_,_,rfl,ho,TG.cl,TG.nn,rfl,_,rfl,ln,_,_,_,rfl,rfl,aH.of G.nexts,rF hi.1 hl,l,rfl,⟨_,aH.of hL⟩,fun D hD=>?_⟩;refine cj (K:=K) (a:=l) (xs:=(nodeAt g i.toNat).next.map nat) (fun n H'=>H' D=some (.lst ((((nodeAt g i.toNat).next.take n).filter fun x=>x != j.toNat).map nat))∧aD H H') ⟨a9,ah hD⟩ (fun n H' _ p=>aH.of (p.2 _ _ hL)) ?_ ?_
 ·rintro n v H' hv ⟨p1,p2⟩;rw[Kw] at hv;obtain⟨x,hx,rfl⟩:=KF.mp hv;refine⟨rfl,_,rfl,_,rfl,rfl,_,rfl,?_⟩;refine de (fun hn=>?_) (fun hn=>?_)
  ·have hxj:(x != j.toNat)=true:=by rw[←Cs hj.1];exact hn
   refine⟨_,rfl,_,p1,br (by rw[Kv];exact LI (Lg ..) (by rw[L9];omega)),?_,bh p2 hD⟩
   rw[a9,bS hx,LM,LK,LL,if_pos hxj,KO];rfl
  ·have hxj:¬(x != j.toNat)=true:=by rw[←Cs hj.1];exact hn
   refine⟨?_,p2⟩;rw[bS hx,LM,LK,LL,if_neg hxj,Lp];exact p1
 ·rintro H' ⟨p1,p2⟩;rw[KS (by rw[Kv];omega)] at p1
  obtain⟨r1,r2,r3⟩:=tH G hD;have G3:=G.same p2;have G4:=G3.relist (i:=i.toNat) (q:=D) hi2 p1 r1 r2 r3;refine⟨_,rfl,a,CG,dx,_,_,rfl,p2 _ _ ho,TG.cl,TG.nn,rfl,_,rfl,ln,_,_,i.toNat,rfl,rfl,G3.nexts,zp hi.1 (by rw[Kv,G.len];exact ei),?_⟩
  refine⟨fM,fun t ht=>k _ t _ (G4.same (ah ht)) a9 (SG.trans (SG.of p2) (SG.trans (fun b o e n1 n2=>by rw[ak n2];exact e) (SG.of (ah ht))))⟩
theorem il.nil:il []:=⟨by decide,fun _ h=>(by cases h),fun _ h=>(by cases h),fun _ h=>(by cases h),fun _ h=>(by cases h)⟩
theorem il.snoc{g:Gr}{m:Nat}(G:il g)(hl:g.length < 12)(hm:m≤15):il (g++[⟨m,[]⟩]):=by
 have e:(g++[(⟨m,[]⟩:Vbavai.Node)]).length=g.length+1:=by rw[Ky];rfl
 refine⟨by rw[e];omega,fun nd h=>?_,fun nd h j hj=>?_,fun nd h=>?_,fun nd h=>?_⟩<;>rcases Lb.mp h with h | h
 ·exact G.mks nd h
 ·rw[Lq.mp h];exact hm
 ·rw[e];have:=G.nx nd h j hj;omega
 ·rw[Lq.mp h] at hj;cases hj
 ·exact G.out nd h
 ·rw[Lq.mp h];exact KZ _
 ·exact G.ord nd h
 ·rw[Lq.mp h];exact List.Pairwise.nil
theorem il.set{g:Gr}{i:Nat}{x:Vbavai.Node}(G:il g)(h1:x.marks≤15)(h2:∀j∈x.next,j < g.length)(h3:x.next.length≤4)(h4:x.next.Pairwise (· < ·)):il (g.set i x):=by
 refine⟨by rw[LB];exact G.len,fun nd h=>?_,fun nd h j hj=>?_,fun nd h=>?_,fun nd h=>?_⟩<;>rcases List.mem_or_eq_of_mem_set h with h | h
 ·exact G.mks nd h
 ·rw[h];exact h1
 ·rw[LB];exact G.nx nd h j hj
 ·rw[LB];exact h2 j (h▸hj)
 ·exact G.out nd h
 ·rw[h];exact h3
 ·exact G.ord nd h
 ·rw[h];exact h4
theorem il.act{g:Gr}{c:Vbavai.Call}(G:il g)(hc:Vbavai.ranged c=true):il (Vbavai.act ⟨g⟩ c).1.g:=by
 have at_:∀{i:Int},0≤i->i < (g.length:Int)->nodeAt g i.toNat∈g:=fun h0 h1=>KA (VM.aT (by omega))
 cases c with
 | node m =>
  have hm:0≤m∧m≤15:=cb.mp hc;unfold Vbavai.act;dsimp only
  by_cases h:Vbavai.NODES≤g.length
  ·rw[if_pos h];exact G
  ·rw[if_neg h];exact G.snoc (by have:¬12≤g.length:=h;omega) (by omega)
 | edge a b =>
  have hc:=Ly.mp hc;have ha:0≤a∧a≤11:=cb.mp hc.1;have hb:0≤b∧b≤11:=cb.mp hc.2;unfold Vbavai.act;dsimp only
  by_cases h:(g.length:Int)≤a∨(g.length:Int)≤b
  ·rw[if_pos h];exact G
  ·rw[if_neg h]
   by_cases h2:(nodeAt g a.toNat).next.contains b.toNat=true
   ·rw[if_pos h2];exact G
   ·rw[if_neg h2]
    by_cases h3:Vbavai.OUT≤(nodeAt g a.toNat).next.length
    ·rw[if_pos h3];exact G
    ·rw[if_neg h3];have hm:=at_ ha.1 (by omega)
     have h4:¬4≤(nodeAt g a.toNat).next.length:=h3;refine G.set (G.mks (nodeAt g a.toNat) hm) (fun j hj=>?_) ?_ (VM.vF (G.ord (nodeAt g a.toNat) hm))
     ·rcases VM.pM.mp hj with e | e
      ·omega
      ·exact G.nx (nodeAt g a.toNat) hm j e
     ·show(Vbavai.put _ _).length≤4;rw[VM.FI (fun z=>h2 (LQ.mpr z))];omega
 | cut a b =>
  have hc:=Ly.mp hc;have ha:0≤a∧a≤11:=cb.mp hc.1;unfold Vbavai.act;dsimp only
  by_cases h:(g.length:Int)≤a∨(g.length:Int)≤b
  ·rw[if_pos h];exact G
  ·rw[if_neg h]
   by_cases h2:(nodeAt g a.toNat).next.contains b.toNat=false
   ·rw[if_pos h2];exact G
   ·rw[if_neg h2];have hm:=at_ ha.1 (by omega)
    exact G.set (G.mks (nodeAt g a.toNat) hm) (fun j hj=>G.nx (nodeAt g a.toNat) hm j (Lr.mp hj).1) (Lh (Lg ..) (G.out (nodeAt g a.toNat) hm)) ((G.ord (nodeAt g a.toNat) hm).filter _)
 | marks a m =>
  have hc:=Ly.mp hc;have ha:0≤a∧a≤11:=cb.mp hc.1;have hm:0≤m∧m≤15:=cb.mp hc.2;unfold Vbavai.act;dsimp only
  by_cases h:(g.length:Int)≤a
  ·rw[if_pos h];exact G
  ·rw[if_neg h];have hn:=at_ ha.1 (by omega)
   exact G.set (show m.toNat≤15 by omega) (G.nx (nodeAt g a.toNat) hn) (G.out (nodeAt g a.toNat) hn) (G.ord (nodeAt g a.toNat) hn)
 | told a=>unfold Vbavai.act;dsimp only;split<;>exact G
 | holds t=>unfold Vbavai.act Vbavai.ofText;dsimp only;(repeat' split);all_goals exact G
 | shows a t=>unfold Vbavai.act Vbavai.ofText;dsimp only;(repeat' split);all_goals exact G
 | form t=>unfold Vbavai.act Vbavai.ofText;dsimp only;(repeat' split);all_goals exact G
 | classes=>unfold Vbavai.act;dsimp only;split<;>exact G
 | apart a b=>unfold Vbavai.act;dsimp only;(repeat' split);all_goals exact G
 | quotient=>unfold Vbavai.act;dsimp only;split<;>exact G
 | same t u=>unfold Vbavai.act;dsimp only;(repeat' split);all_goals exact G
def kn:List DictEntry->Prop
 | []=>True
 | e::r=>(∃x t,e.key=.int x t∧e.hash=hashInt x)∧kn r
theorem kn.all:∀{l:List DictEntry},kn l->∀e∈l,∃x t,e.key=.int x t∧e.hash=hashInt x:=by
 intro l
 induction l with
 | nil=>intro _ e he;exact absurd he LJ
 | cons a r ih =>
  intro h e he;rcases List.mem_cons.mp he with q | q
  ·rw[q];exact h.1
  ·exact ih h.2 e q
structure ql(K:Frag)(mg:Str->Option Value)(D:Str)(d:Addr)(es:Array DictEntry):Prop where
 mg:mg D=some (.ref d)
 lk:∃n,K.lookup d=some ⟨.type "dict",none,.dict es n,#[]⟩
 kl:kn es.toList
 lo:(d==sysModules)=false
theorem CL{prog:Program}{w:World}{h:Heap}{K:Frag}{a:Addr}{es:Array DictEntry}{n:Nat}(X:K.In h)(hl:K.lookup a=some ⟨.type "dict",none,.dict es n,#[]⟩)(hk:kn es.toList):h.MapOf (intKind prog w) a (fun k=>findBy Value.isInt es k) :=
 ⟨_,es,n,X _ _ hl,⟨rfl,rfl,rfl⟩,rfl,fun e he=>by
  obtain⟨x,t,e1,e2⟩:=hk.all e (Array.mem_toList_iff.mpr he);exact⟨x,by rw[e1];exact intKind_is prog w x t,e2⟩,fun _=>rfl⟩
inductive wU(es:Array DictEntry)(Q:VK)(y:V)(H1:Hp):Prop
 | mk (x u v:_):y=.int x->findBy Value.isInt es x=some u->bg v u->Q v H1->wU es Q y H1
def AS(es:Array DictEntry)(ty:TE):TE:=fun σ H Q=>ty σ H fun y H1=>wU es Q y H1
section
variable{X:Cx}{D:Str}{d:Addr}{es:Array DictEntry}{i:Expr}{ty:TE}{p pos:Pos}
theorem tZ(M:ql X.K X.mg D d es)(hg:Gl X D)(hi:PE X i ty)(hs:Dd i)(hdb:(D==("__debug__":Str))=false:=by decide):PE X (.Subscript (.Name D p) i pos) (AS es ty):=by
 intro pins s σ H Q I h
 refine pZ PySem.F.slot_dict_getitem.lookup hs (bE (bo (v:=.ref d) hg M.mg rfl hdb pins s σ H (fun v H2=>v=.ref d∧AS es ty σ H2 Q) I ⟨rfl,h⟩) fun u s1 ⟨z,H1,I1,rx,ez,q1⟩ =>
  bE (hi pins s1 σ H1 _ I1 q1) fun iv s2 ⟨y,H2,I2,ry,x,u2,v,ey,hf,rv,q2⟩=>?_)
 subst ey ez;obtain rfl:u=Value.ref d:=rx;obtain⟨t,rfl⟩:=(show ∃t,iv=Value.int x t from ry)
 obtain⟨n,lk⟩:=M.lk;have hm:=CL (prog:=X.prog) (w:=X.w) I2.kIn lk M.kl;exact⟨hm.typeIs,wpAny_getItem_of (intKind_is X.prog X.w x t) hm hf ⟨v,H2,I2.tok _,rv,q2⟩⟩
end
inductive AK where
 | marks (x:Int)
 | node (x:Int)
 | text (l:List Int)
def AK.kind:AK->Str
 | .marks _=>"marks"
 | .node _=>"node"
 | .text _=>"text"
def AK.ok:AK->Bool
 | .marks x=>Vbavai.inR x 0 15
 | .node x=>Vbavai.nodeIn x
 | .text l=>Vbavai.textIn l
def AK.flat:AK->List Int
 | .marks x=>[x]
 | .node x=>[x]
 | .text l=>(l.length:Int)::l
def AK.at(N:Addr->Prop)(H:Hp)(v:V):AK->Prop
 | .marks x=>v=.int x
 | .node x=>v=.int x
 | .text l=>∃t,v=.ref t∧N t∧D1 H t l
theorem AK.at.keep{N N':Addr->Prop}{H H':Hp}{v:V}{k:AK}(h:k.at N H v)(hn:∀b,N b->N' b)(s:∀b o,N b->H b=some o->H' b=some o):k.at N' H' v:=by
 cases k with
 | marks x=>exact h
 | node x=>exact h
 | text l=>obtain⟨t,e,n,a⟩:=h;exact⟨t,e,hn t n,s t _ n a⟩
inductive nB(vs:List V)(H:Hp)(Q:VK)(z3_:XK):Prop
 | mk (N:Addr->Prop) (v:V) (k:AK):vs=[.str k.kind,v]->k.at N H v->(∀H',aD H H'->Q (.bl k.ok) H')->nB vs H Q z3_
structure JR(es:Array DictEntry):Prop where
 marks:∃t,findBy Value.isStrOf es "marks"=some (.int 15 t)
 node:∃t,findBy Value.isStrOf es "node"=some (.int 11 t)
theorem wu(F:aK K mg "in_range" lY)(T:j3 mg)(hL:∃t,mg "LONGEST_TEXT"=some (.int 400 t))(hB:∃t,mg "GREATEST_BYTE"=some (.int 255 t)){d:Addr}{es:Array DictEntry}(M:lr K mg w "GREATEST" d es)(GT:JR es):aS P w K mg base C 1 "in_range" ["kind","value"] nB:=by
 refine F.cal rW fun f cdv A outer s H vs Q E hr h=>?_;obtain⟨N,v,k,rfl,hv,kk⟩:=h;have nd:=rW.nd;obtain⟨t1,hL⟩:=hL;obtain⟨t2,hB⟩:=hB
 refine⟨_,ae (aV (aI bV (pv 0) bf (aR _)) (ai (aw (DG (eE tO (aQ aU rfl T.len boot_len (a8 (pv 1) aa)) (bo (v:=.int 400) rfl hL ⟨t1,rfl⟩) (aR _))
   (rM (aQ (CW rfl) rfl T.all boot_all (a8 (du (own:=[("byte",2)]) (te:=zQ (An fun i j=>.bl (decide (i≤j))) (An fun i j=>.bl (decide (i≤j))) (tC (.int 0)) (bL 2) (tC (.int 255))) rfl nd (bF (pv 1)) (ba rfl) (fun _ _ _ _ _=>aO (i:=2) nd rfl (Or.inl rfl)) (fun _ _ _ _ _=>bP)
    (fun _ _ _ _ _=>wM tO tO aA (pv 2) (bo (v:=.int 255) rfl hB ⟨t2,rfl⟩))) aa)))))) aB)
  (ai (aw (wM tO tO aA (pv 1) (rY M rfl (pv 0) (fun _ _=>rfl))))),?_⟩
 have num:∀(x hi:Int)(nm:Str)(u:Value),findBy Value.isStrOf es nm=some u->bg (.int hi) u->(∀H',aD H H'->Q (.bl (Vbavai.inR x 0 hi)) H')->zJ (zQ (An fun i j=>.bl (decide (i≤j))) (An fun i j=>.bl (decide (i≤j))) (tC (.int 0)) (bL 1) (zw es (bL 0))) {nx:=fun _ H'=>Q .non H',rt:=Q} [some (.str nm),some (.int x),none] H:=fun x hi nm u hf hu k=>by
  refine⟨_,rfl,_,_,rfl,rfl,_,rfl,?_⟩;unfold Vbavai.inR at k;refine de (fun h=>?_) (fun h=>?_)
  ·refine⟨_,rfl,nm,u,.int hi,rfl,hf,hu,_,_,rfl,rfl,?_⟩;have:=k H (fun _ _ e=>e);rw[h] at this;exact this
  ·have:=k H (fun _ _ e=>e);rw[Bool.not_eq_true] at h;rw[h] at this;exact this
 cases k with
 | marks x =>
  cases hv;refine⟨_,rfl,rfl,_,rfl,?_⟩;refine bC (show decide (V.str "marks"=V.str "text")=false by decide) ?_
  obtain⟨t,ht⟩:=GT.marks;exact num x 15 "marks" _ ht ⟨t,rfl⟩ kk
 | node x =>
  cases hv;refine⟨_,rfl,rfl,_,rfl,?_⟩;refine bC (show decide (V.str "node"=V.str "text")=false by decide) ?_
  obtain⟨t,ht⟩:=GT.node;exact num x 11 "node" _ ht ⟨t,rfl⟩ kk
 | text l =>
  obtain⟨t,rfl,_,ht⟩:=hv;refine⟨_,rfl,rfl,_,rfl,?_⟩;refine gz (show decide (V.str "text"=V.str "text")=true by decide) ?_
  refine⟨_,rfl,t,_,rfl,.inl (aH.of ht),_,_,rfl,rfl,_,rfl,?_⟩;have kk:∀H',aD H H'->Q (.bl (decide (l.length≤400)&&l.all fun c=>Vbavai.inR c 0 255)) H':=kk;rw[Kv];refine de (fun h=>?_) (fun h=>?_)
  ·have h4:l.length≤400:=by have:=Lm h;omega
   refine⟨_,rfl,t,rfl,⟨_,aH.of ht⟩,fun D hD=>?_⟩
   let bs:List Bool:=l.map fun c=>Vbavai.inR c 0 255
   have hz:(bs.map V.bl).length≤100000:=by rw[Kv,Kv];omega
   refine cj (K:=K) (a:=t) (xs:=l.map V.int) (fun i H'=>H' D=some (.lst ((bs.map V.bl).take i))∧aD H H') ⟨a9,ah hD⟩ (fun i H' _ p=>aH.of (p.2 _ _ ht)) ?_ ?_
   ·rintro i v H' hv ⟨p1,p2⟩;rw[Kw] at hv;obtain⟨c,hc,rfl⟩:=KF.mp hv;have st:(bs.map V.bl)[i]?=some (.bl (Vbavai.inR c 0 255)):=by rw[Kw,Kw,hc];rfl
    unfold Vbavai.inR at st;refine⟨rfl,_,rfl,_,_,rfl,rfl,_,rfl,?_⟩;refine de (fun h=>?_) (fun h=>?_)
    ·rw[h] at st;exact⟨_,_,rfl,rfl,bD hD p1 p2 st hz⟩
    ·rw[Bool.not_eq_true] at h;rw[h] at st;exact bD hD p1 p2 st hz
   ·rintro H' ⟨p1,p2⟩;rw[KS (by rw[Kv,Kv,Kv];omega)] at p1
    refine⟨D,bs,rfl,aH.of p1,?_⟩;have:=kk H' p2;rw[Ll h4,Bool.true_and] at this;rw[show bs.all id=l.all fun c=>Vbavai.inR c 0 255 from by rw[List.all_map];rfl]
    exact this
  ·have h4:¬l.length≤400:=fun z=>h (Ll (by omega))
   have:=kk H (fun _ _ e=>e);rw[Ln h4,Bool.false_and] at this;exact this
theorem zT{K:Frag}{a:Addr}{xs:List V}{g:TG}{tb:TS}{D:m6}{σ:L2.St}{H:Hp}(Pv:Nat->L2.St->Hp->Prop)(h0:Pv 0 σ H)(hl:∀i σ H,Pv i σ H->aH K H a xs)
  (hs:∀i x σ H,i < xs.length->xs[xs.length - 1 - i]?=some x->Pv i σ H->g x σ H fun σ2 H2=>tb {D with nx:=Pv (i+1),ct:=Pv (i+1),bk:=D.nx} σ2 H2)(hd:∀σ H,Pv xs.length σ H->D.nx σ H) :
  ∃W:Nat->Nat->L2.St->Hp->Prop,(∃m,W 0 m σ H)∧∀i m σ H,W i m σ H →
   ((IQ K a xs.length).stop i H∧D.nx σ H)∨((IQ K a xs.length).go i H∧∃N:L2.St->Hp->Prop,(∀σ' H',N σ' H'->∃m',m' < m∧W (i+1) m' σ' H')∧∀x H',(IQ K a xs.length).yld i H x H'->g x σ H' fun σ2 H2=>tb {D with nx:=N,ct:=N,bk:=D.nx} σ2 H2):=by
 refine⟨fun i m σ H=>m=xs.length - i∧i≤xs.length∧Pv i σ H,⟨_,rfl,KZ _,h0⟩,?_⟩;rintro i m σ H ⟨rfl,hi,p⟩;have q:=hl i σ H p
 by_cases hlt:i < xs.length
 ·have e:xs[xs.length - 1 - i]?=some (xs[xs.length - 1 - i]'(by omega)):=Kz _
  refine .inr ⟨⟨hlt,xs,_,q,e⟩,Pv (i+1),fun σ' H' p'=>⟨_,by omega,rfl,hlt,p'⟩,fun x H' y=>?_⟩
  obtain⟨rfl,hx⟩:=y;exact hs i x σ _ hlt (hx xs q) p
 ·have e:i=xs.length:=by omega
  subst e;exact .inl ⟨KG _,hd σ H p⟩
theorem DR{K:Frag}{a:Addr}{xs:List V}{g:TG}{tb:TS}{D:m6}{σ:L2.St}{H:Hp}(Pv:Nat->L2.St->Hp->Prop)(h0:Pv 0 σ H)(hl:∀i σ H,Pv i σ H->aH K H a xs)
  (hs:∀i x σ H T,xs[i]?=some x->Pv i σ H->H T=none->g (.ref T) σ (upd H T (.tup [.int (i:Nat),x])) fun σ2 H2=>tb {D with nx:=Pv (i+1),ct:=Pv (i+1),bk:=D.nx} σ2 H2)(hd:∀σ H,Pv xs.length σ H->D.nx σ H) :
  ∃W:Nat->Nat->L2.St->Hp->Prop,(∃m,W 0 m σ H)∧∀i m σ H,W i m σ H →
   ((Gc K a).stop i H∧D.nx σ H)∨((Gc K a).go i H∧∃N:L2.St->Hp->Prop,(∀σ' H',N σ' H'->∃m',m' < m∧W (i+1) m' σ' H')∧∀x H',(Gc K a).yld i H x H'->g x σ H' fun σ2 H2=>tb {D with nx:=N,ct:=N,bk:=D.nx} σ2 H2):=by
 refine⟨fun i m σ H=>m=xs.length - i∧i≤xs.length∧Pv i σ H,⟨_,rfl,KZ _,h0⟩,?_⟩;rintro i m σ H ⟨rfl,hi,p⟩;have q1:=hl i σ H p
 by_cases hlt:i < xs.length
 ·refine .inr ⟨⟨xs,xs[i],q1,by simp[hlt]⟩,Pv (i+1),fun σ' H' p'=>⟨_,by omega,rfl,hlt,p'⟩,fun x H' y=>?_⟩
  obtain⟨T,x,rfl,hT,rfl,hx⟩:=y;exact hs i x σ H T (hx xs q1) p hT
 ·have e:i=xs.length:=by omega
  subst e;exact .inl ⟨⟨xs,q1,KG _⟩,hd σ H p⟩
theorem xf{xs:List V}{v:V}:xB (xs++[v]) none (some (-1))=xs:=by
 unfold xB;have e1:HT.vn (xs++[v]).length 0 none=0:=rfl
 have e2:HT.vn (xs++[v]).length (xs++[v]).length (some (-1))=xs.length:=by
  unfold HT.vn;rw[Ky,KY];simp;omega
 rw[e1,e2,List.drop_zero,Nat.sub_zero,List.take_left]
end Can
namespace VM
open Vbavai
theorem v8{x:List Bool}{i:Nat}(h:mem x i=true):i < x.length:=by
 apply Nat.lt_of_not_le;intro hl;unfold mem at h;rw[KP,L8 hl] at h;exact KM h
def Ca(x:List Bool):Nat:=x.count true
theorem rH(x:List Bool):Ca x≤x.length:=List.count_le_length
theorem Sub.tail{a b:Bool}{x y:List Bool}(h:Sub (a::x) (b::y)):Sub x y:=fun i hi=>h (i+1) hi
theorem Sub.head{a b:Bool}{x y:List Bool}(h:Sub (a::x) (b::y))(ha:a=true):b=true:=h 0 ha
theorem rn:∀{x y:List Bool},x.length=y.length->Sub x y->Ca x≤Ca y∧(Ca x=Ca y->x=y)
 | [],[],_,_=>⟨KG _,fun _=>rfl⟩
 | a::x,b::y,hl,h=>by
  obtain⟨h1,h2⟩:=rn (x:=x) (y:=y) (by simpa using hl) h.tail
  have hab:=h.head;unfold Ca at *;rw[List.count_cons,List.count_cons];cases a<;>cases b
  ·exact⟨by simpa using h1,fun e=>by rw[h2 (by simpa using e)]⟩
  ·refine⟨by simp;omega,fun e=>?_⟩
   simp at e;omega
  ·exact absurd (hab rfl) (by decide)
  ·refine⟨by simp;omega,fun e=>?_⟩
   simp at e;rw[h2 (by omega)]
theorem uV{f:List Bool->List Bool}{z:List Bool}{j:Nat}(h:times f j z=times f (j+1) z):∀m,times f (j+m) z=times f j z
 | 0=>rfl
 | m+1=>by rw[←Nat.add_assoc,bI,uV h m];exact((bI f j z).symm.trans h.symm)
theorem Ew{f:List Bool->List Bool}{z:List Bool}{n:Nat}(hl:∀k,(times f k z).length=n)(hs:∀k,Sub (times f k z) (times f (k+1) z)):∃j,j≤n∧times f j z=times f (j+1) z:=by
 have key:∀k,(∃j,j < k∧times f j z=times f (j+1) z)∨k≤Ca (times f k z):=by
  intro k
  induction k with
  | zero=>exact .inr (KZ _)
  | succ k ih =>
   rcases ih with ⟨j,h1,h2⟩ | h
   ·exact .inl ⟨j,by omega,h2⟩
   ·by_cases e:times f k z=times f (k+1) z
    ·exact .inl ⟨k,by omega,e⟩
    ·obtain⟨c1,c2⟩:=rn ((hl k).trans (hl (k+1)).symm) (hs k);have:Ca (times f k z)≠Ca (times f (k+1) z):=fun q=>e (c2 q);exact .inr (by omega)
 rcases key (n+1) with ⟨j,h1,h2⟩ | h
 ·exact⟨j,by omega,h2⟩
 ·have:=rH (times f (n+1) z);rw[hl] at this;omega
theorem yI{f:List Bool->List Bool}{z:List Bool}{n:Nat}(hl:∀k,(times f k z).length=n)(hs:∀k,Sub (times f (k+1) z) (times f k z)):∃j,j≤n∧times f j z=times f (j+1) z:=by
 have key:∀k,(∃j,j < k∧times f j z=times f (j+1) z)∨k+Ca (times f k z)≤n:=by
  intro k
  induction k with
  | zero=>refine .inr ?_;have:=rH (times f 0 z);rw[hl] at this;omega
  | succ k ih =>
   rcases ih with ⟨j,h1,h2⟩ | h
   ·exact .inl ⟨j,by omega,h2⟩
   ·by_cases e:times f k z=times f (k+1) z
    ·exact .inl ⟨k,by omega,e⟩
    ·obtain⟨c1,c2⟩:=rn ((hl (k+1)).trans (hl k).symm) (hs k);have:Ca (times f (k+1) z)≠Ca (times f k z):=fun q=>e (c2 q).symm;exact .inr (by omega)
 rcases key (n+1) with ⟨j,h1,h2⟩ | h
 ·exact⟨j,by omega,h2⟩
 ·omega
def jm(g:Graph)(x y:List Bool)(k:Nat):List Bool:=times (grow g x y) k y
theorem iu(g:Graph)(x y:List Bool)(k:Nat):jm g x y (k+1)=grow g x y (jm g x y k):=bI _ _ _
theorem uK{g:Graph}{x y:List Bool}(hy:y.length=g.length)(k:Nat):(jm g x y k).length=g.length:=dH (fun _=>bA ..) hy k
theorem mE{g:Graph}{x y z:List Bool}{i:Nat}(h:i < g.length):mem (grow g x y z) i=(mem y i||(mem x i&&some_ g z i)):=kJ h
theorem FH{g:Graph}{x y z:List Bool}{i:Nat}(h:mem (grow g x y z) i=true):i < g.length:=by
 have:=v8 h;unfold grow at this
 rwa [bA] at this
theorem Ba{g:Graph}{x y z z':List Bool}(h:Sub z z'):Sub (grow g x y z) (grow g x y z'):=fun i hi=>by
 have hl:=FH hi;rw[mE hl] at hi ⊢;rw[Bool.or_eq_true,L7] at hi ⊢;rcases hi with a | ⟨a,b⟩
 ·exact .inl a
 ·exact .inr ⟨a,tp h i b⟩
theorem vj{g:Graph}{x y:List Bool}(hy:y.length=g.length):∀k,Sub (jm g x y k) (jm g x y (k+1))
 | 0=>fun i hi=>by
  have hl:i < g.length:=by rw[←hy];exact v8 hi
  rw[iu,mE hl,show mem y i=true from hi]
  rfl
 | k+1=>by
  rw[iu,iu (k:=k+1)];exact Ba (vj hy k)
theorem yP{g:Graph}{x y:List Bool}(hy:y.length=g.length){k m:Nat}(h:k≤m):Sub (jm g x y k) (jm g x y m):=by
 induction m with
 | zero=>rw[show k=0 from by omega];exact fun _ q=>q
 | succ m ih =>
  by_cases e:k=m+1
  ·rw[e];exact fun _ q=>q
  ·exact fun i hi=>vj hy m i (ih (by omega) i hi)
theorem EW{g:Graph}{x y:List Bool}(hy:y.length=g.length){m i:Nat}(h:mem (jm g x y m) i=true):mem (jm g x y g.length) i=true:=by
 by_cases hm:m≤g.length
 ·exact yP hy hm i h
 ·obtain⟨j,hj,e⟩:=Ew (f:=grow g x y) (z:=y) (n:=g.length) (uK hy) (vj hy);obtain⟨d,rfl⟩:∃d,m=j+d:=⟨m - j,by omega⟩
  have:jm g x y (j+d)=jm g x y j:=uV e d;rw[this] at h;exact yP hy hj i h
theorem iJ{n K:Nat}{p:Nat->Bool}(hK:K < n)(h:p K=true):∃k,(List.range n).find? p=some k∧k≤K∧p k=true∧∀j,j < k->p j=false:=by
 cases e:(List.range n).find? p with
 | none=>exact absurd h (by have:=LF.mp e K (List.mem_range.mpr hK);simpa using this)
 | some k =>
  have hk:=List.find?_some e
  have hf:∀j,j < k->p j=false:=by
   intro j hj;obtain⟨_,as,bs,e2,hb⟩:=List.find?_eq_some_iff_append.mp e;have hkn:k < n:=List.mem_range.mp (List.mem_of_find?_eq_some e)
   have hlen:as.length=k:=by
    have e3:(List.range n)[as.length]?=some k:=by rw[e2];simp
    rw[List.getElem?_range (by
     have:=(KQ.mp e3).1;simpa using this)] at e3
    exact LS e3
   have hj2:as[j]?=some j:=by
    have e4:(List.range n)[j]?=some j:=List.getElem?_range (by omega)
    rw[e2,Lf (by omega)] at e4
    exact e4
   have:=hb j (KA hj2);simpa using this
  refine⟨k,rfl,?_,hk,hf⟩;apply Nat.le_of_not_lt;intro hlt;rw[hf K hlt] at h;exact KM h
theorem se{g:Graph}{x y:List Bool}(hy:y.length=g.length){m i:Nat}(h:mem (jm g x y m) i=true) :
  ∃K,steps g x y i=some K∧K≤g.length∧mem (jm g x y K) i=true∧∀j,j < K->mem (jm g x y j) i=false:=by
 obtain⟨k,h1,h2,h3,h4⟩:=iJ (n:=g.length+1) (p:=fun k=>mem (jm g x y k) i) (LO _) (EW hy h);exact⟨k,h1,h2,h3,h4⟩
theorem By{g:Graph}{x y:List Bool}(hy:y.length=g.length){k c:Nat}(h1:mem (jm g x y (k+1)) c=true)(h0:mem (jm g x y k) c=false) :
  ∃j,(nodeAt g c).next.find? (mem (jm g x y k))=some j∧mem (jm g x y k) j=true∧(∀k',k=k'+1->mem (jm g x y k') j=false)∧walk g x y (k+1) c=c::walk g x y k j:=by
 have hc:c < g.length:=by rw[←uK hy (k+1)];exact v8 h1
 have hyc:mem y c=false:=by
  cases q:mem y c with
  | false=>rfl
  | true=>rw[yP hy (KZ k) c q] at h0;exact absurd h0 (by decide)
 rw[iu,mE hc,hyc,Bool.false_or,L7] at h1;obtain⟨hx,hs⟩:=h1;cases e:(nodeAt g c).next.find? (mem (jm g x y k)) with
 | none =>
  unfold some_ at hs;rw[List.any_eq_true] at hs;obtain⟨j,hj,hm⟩:=hs;exact absurd hm (by simpa using LF.mp e j hj)
 | some j =>
  have hm:=List.find?_some e;refine⟨j,rfl,hm,fun k' hk'=>?_,?_⟩
  ·subst hk';cases q:mem (jm g x y k') j with
   | false=>rfl
   | true =>
    have:mem (jm g x y (k'+1)) c=true:=by
     rw[iu,mE hc,hx,Bool.true_and,hyc,Bool.false_or];exact List.any_eq_true.mpr ⟨j,List.mem_of_find?_eq_some e,q⟩
    rw[this] at h0;exact absurd h0 (by decide)
  ·show(match (nodeAt g c).next.find? fun j=>mem (times (grow g x y) k y) j with
    | none=>[c]
    | some j=>c::walk g x y k j)=_
   rw[show((nodeAt g c).next.find? fun j=>mem (times (grow g x y) k y) j)=some j from e]
theorem BL(g:Graph)(x y:List Bool)(i:Nat):walk g x y 0 i=[i]:=rfl
theorem Ac{g:Graph}{x:List Bool}(hx:x.length=g.length)(k:Nat):(times (shrink g) k x).length=g.length:=dH (fun _=>bA ..) hx k
theorem EU{g:Graph}{x:List Bool}(k:Nat):Sub (times (shrink g) (k+1) x) (times (shrink g) k x):=by
 rw[bI];exact qi g _
theorem BG{g:Graph}{x:List Bool}(hx:x.length=g.length){i:Nat}(h:mem (times (shrink g) g.length x) i=true):some_ g (times (shrink g) g.length x) i=true:=by
 obtain⟨j,hj,e⟩:=yI (f:=shrink g) (z:=x) (n:=g.length) (Ac hx) EU;obtain⟨d,hd⟩:∃d,g.length=j+d:=⟨g.length - j,by omega⟩
 have e1:times (shrink g) g.length x=times (shrink g) j x:=by rw[hd];exact uV e d
 have e2:times (shrink g) (g.length+1) x=times (shrink g) j x:=by rw[hd,Nat.add_assoc];exact uV e (d+1)
 have hi:i < g.length:=by rw[←Ac hx g.length];exact v8 h
 have h2:mem (times (shrink g) (g.length+1) x) i=true:=by rw[e2,←e1];exact h
 rw[bI] at h2;unfold shrink at h2;rw[kJ hi,L7] at h2;exact h2.2
theorem C0{g:Graph}{x:List Bool}(hx:x.length=g.length){i:Nat}(h:mem (times (shrink g) g.length x) i=true) :
  ∃j,(nodeAt g i).next.find? (mem (times (shrink g) g.length x))=some j∧mem (times (shrink g) g.length x) j=true:=by
 have hs:=BG hx h;cases e:(nodeAt g i).next.find? (mem (times (shrink g) g.length x)) with
 | none =>
  unfold some_ at hs;rw[List.any_eq_true] at hs;obtain⟨j,hj,hm⟩:=hs;exact absurd hm (by simpa using LF.mp e j hj)
 | some j=>exact⟨j,rfl,List.find?_some e⟩
theorem Bh{g:Graph}{x:List Bool}{k i:Nat}{seen:List Nat}(h:i∈seen):circle g x k seen i=(seen.reverse,seen.reverse.idxOf i):=by
 cases k with
 | zero=>rfl
 | succ k =>
  unfold circle;rw[if_pos (by simpa using h)]
theorem BF{g:Graph}{x:List Bool}{k i j:Nat}{seen:List Nat}(h:i∉seen)(hf:(nodeAt g i).next.find? (mem x)=some j):circle g x (k+1) seen i=circle g x k (i::seen) j:=by
 conv=>lhs;unfold circle
 rw[if_neg (by simpa using h),hf]
theorem jG{l:List Nat}{p:Nat->Bool}{j:Nat}(h:l.find? p=some j):∃r,l.filter p=j::r:=by
 rw[←List.head?_filter] at h;cases q:l.filter p with
 | nil=>rw[q] at h;cases h
 | cons a r=>rw[q] at h;cases h;exact⟨r,rfl⟩
theorem ik:∀{n:Nat}{l:List Nat},l.Nodup->(∀j∈l,j < n)->l.length≤n
 | 0,[],_,_=>KG _
 | 0,a::_,_,h=>absurd (h a KJ) (Nat.not_lt_zero _)
 | n+1,l,hd,hn=>by
  by_cases e:n∈l
  ·have h1:(l.erase n).length≤n:=ik (hd.erase n) fun j hj=>by
    obtain⟨a,b⟩:=hd.mem_erase_iff.mp hj;have:=hn j b;omega
   rw[List.length_erase_of_mem e] at h1;omega
  ·have h1:l.length≤n:=ik hd fun j hj=>by
    have:=hn j hj;have:j≠n:=fun q=>e (q▸hj);omega
   omega
section
variable{κ:Type}[BEq κ][LawfulBEq κ]
def met(l:List κ):List κ->List κ
 | []=>l
 | r::rs=>met (if r∈l then l else l++[r]) rs
theorem iU:∀(rs l:List κ),∃t,met l rs=l++t
 | [],l=>⟨[],by simp[met]⟩
 | r::rs,l=>by
  unfold met
  by_cases h:r∈l
  ·rw[if_pos h];exact iU rs l
  ·rw[if_neg h];obtain⟨t,e⟩:=iU rs (l++[r]);exact⟨r::t,by rw[e];simp⟩
theorem xm:∀(rs l:List κ)(r:κ),met l (rs++[r])=if r∈met l rs then met l rs else met l rs++[r]
 | [],l,r=>rfl
 | a::rs,l,r=>by
  show met _ (rs++[r])=_;rw[xm rs];rfl
theorem kI:∀(rs l:List κ)(x:κ),x∈met l rs↔x∈l∨x∈rs
 | [],l,x=>by simp[met]
 | r::rs,l,x=>by
  unfold met;rw[kI rs]
  by_cases h:r∈l
  ·rw[if_pos h,List.mem_cons]
   constructor
   ·rintro(a | a)
    ·exact .inl a
    ·exact .inr (.inr a)
   ·rintro(a | a | a)
    ·exact .inl a
    ·exact .inl (a▸h)
    ·exact .inr a
  ·rw[if_neg h,List.mem_cons,Lb,Lq,or_assoc]
theorem vi(rs:List κ):∀(l:List κ),(met l rs).length≤l.length+rs.length:=by
 induction rs with
 | nil=>intro l;exact KG _
 | cons r rs ih =>
  intro l;unfold met;have:=ih (if r∈l then l else l++[r]);rw[Kx]
  split at this<;>rename_i h
  ·rw[if_pos h];omega
  ·rw[if_neg h];rw[Ky,KY] at this;omega
theorem qv{l t:List κ}{r:κ}(h:r∈l):(l++t).idxOf r=l.idxOf r:=by rw[List.idxOf_append,if_pos h]
def i3(rows:List κ):List Nat:=rows.map ((met [] rows).idxOf ·)
end
theorem o9:∀(rows l:List (List Nat)),number l rows=rows.map ((met l rows).idxOf ·)
 | [],l=>rfl
 | r::rs,l=>by
  have e:classOf l r=if r∈l then(l.idxOf r,l) else(l.length,l++[r]):=by
   unfold classOf
   by_cases h:r∈l
   ·rw[if_pos h];dsimp only;rw[if_pos (List.idxOf_lt_length_of_mem h)]
   ·rw[if_neg h];dsimp only;rw[if_neg (by rw[List.idxOf_eq_length h];omega)]
  unfold number;rw[KR];dsimp only;rw[e]
  by_cases h:r∈l
  ·rw[if_pos h];dsimp only;rw[o9 rs l];have e2:met l (r::rs)=met l rs:=by show met (if r∈l then l else l++[r]) rs=_;rw[if_pos h]
   obtain⟨t,et⟩:=iU rs l;rw[e2]
   congr 1
   rw[et,qv h]
  ·rw[if_neg h];dsimp only;rw[o9 rs (l++[r])];have e2:met l (r::rs)=met (l++[r]) rs:=by show met (if r∈l then l else l++[r]) rs=_;rw[if_neg h]
   obtain⟨t,et⟩:=iU rs (l++[r]);rw[e2]
   congr 1
   rw[et,qv (by simp),List.idxOf_append,if_neg h]
   simp
theorem oV(rows:List (List Nat)):number [] rows=i3 rows:=o9 rows []
section
variable{κ μ:Type}[BEq κ][LawfulBEq κ][BEq μ][LawfulBEq μ]
theorem oU{f:κ->μ}(hf:∀a b,f a=f b->a=b){l:List κ}{r:κ}:f r∈l.map f↔r∈l:=by
 constructor
 ·intro h;obtain⟨a,ha,e⟩:=Ls.mp h;rw[←hf _ _ e];exact ha
 ·intro h;exact Ls.mpr ⟨r,h,rfl⟩
theorem AC{f:κ->μ}(hf:∀a b,f a=f b->a=b):∀(rs l:List κ),met (l.map f) (rs.map f)=(met l rs).map f
 | [],l=>rfl
 | r::rs,l=>by
  show met (if f r∈l.map f then l.map f else l.map f++[f r]) (rs.map f)=(met (if r∈l then l else l++[r]) rs).map f;rw[←AC hf rs]
  congr 1
  by_cases h:r∈l
  ·rw[if_pos h,if_pos ((oU hf).mpr h)]
  ·rw[if_neg h,if_neg (fun q=>h ((oU hf).mp q)),KO];rfl
theorem AF{f:κ->μ}(hf:∀a b,f a=f b->a=b)(r:κ):∀l:List κ,(l.map f).idxOf (f r)=l.idxOf r
 | []=>rfl
 | a::l=>by
  rw[KR,List.idxOf_cons,List.idxOf_cons,AF hf r l]
  by_cases h:a=r
  ·subst h;simp
  ·have:f a≠f r:=fun q=>h (hf _ _ q);rw[beq_false_of_ne h,beq_false_of_ne this]
theorem xI{f:κ->μ}(hf:∀a b,f a=f b->a=b)(rows:List κ):i3 (rows.map f)=i3 rows:=by
 unfold i3;have:met [] (rows.map f)=(met [] rows).map f:=AC hf rows [];rw[this,Lc];apply List.map_congr_left;intro r _;exact AF hf r _
theorem ir(rows:List κ):(i3 rows).length=rows.length:=Kv ..
theorem Az{rows:List κ}{i j:Nat}{r s:κ}(hi:rows[i]?=some r)(hj:rows[j]?=some s):(i3 rows).getD i 0=(i3 rows).getD j 0↔r=s:=by
 unfold i3;rw[KP,KP,Kw,Kw,hi,hj];have mr:r∈met [] rows:=(kI rows [] r).mpr (.inr (KA hi));have ms:s∈met [] rows:=(kI rows [] s).mpr (.inr (KA hj))
 constructor
 ·intro e;have e:(met [] rows).idxOf r=(met [] rows).idxOf s:=e;have h1:=List.getElem_idxOf (List.idxOf_lt_length_of_mem mr);have h2:=List.getElem_idxOf (List.idxOf_lt_length_of_mem ms);rw[←h1,←h2]
  congr 1
 ·rintro rfl;rfl
theorem Ay{rows:List κ}{c:Nat}(h:c∈i3 rows):c < rows.length:=by
 unfold i3 at h;obtain⟨r,hr,rfl⟩:=Ls.mp h;have h1:=List.idxOf_lt_length_of_mem ((kI rows [] r).mpr (.inr hr));have h2:=vi rows ([]:List κ);rw[L0] at h2;omega
end
def F6(g:Graph):List (List Nat):=(order g).map fun i=>[(nodeAt g i).marks]
def EV(g:Graph)(c:List Nat):List (List Nat):=(order g).map (look g c)
def gY(g:Graph)(c:List Nat)(i:Nat):List Nat:=((nodeAt g i).next.map fun j=>c.getD j 0).foldr put []
theorem j8(g:Graph):classes g 0=i3 (F6 g):=oV _
theorem iQ(g:Graph)(k:Nat):classes g (k+1)=i3 (EV g (classes g k)):=oV _
theorem eV(g:Graph):(order g).length=g.length:=La
theorem kz{g:Graph}{i:Nat}(h:i < g.length):(order g)[i]?=some i:=List.getElem?_range h
theorem eh(g:Graph):∀k,(classes g k).length=g.length
 | 0=>by rw[j8,ir];unfold F6;rw[Kv,eV]
 | k+1=>by rw[iQ,ir];unfold EV;rw[Kv,eV]
theorem zh{g:Graph}{k c:Nat}(h:c∈classes g k):c < g.length:=by
 cases k with
 | zero=>rw[j8] at h;have:=Ay h;unfold F6 at this;rwa [Kv,eV] at this
 | succ k=>rw[iQ] at h;have:=Ay h;unfold EV at this;rwa [Kv,eV] at this
theorem lj(g:Graph):classes g 0=i3 (g.map (·.marks)):=by
 rw[j8,←xI (f:=fun m:Nat=>[m]) (fun a b e=>by injection e)]
 congr 1
 unfold F6;apply List.ext_getElem?;intro i;rw[Kw,Kw,Kw]
 by_cases h:i < g.length
 ·rw[kz h,aT h];rfl
 ·rw[L8 (by rw[eV];omega),L8 (by omega)];rfl
def kX(g:Graph)(c:List Nat):List (Nat×List Nat):=(order g).map fun i=>(c.getD i 0,gY g c i)
theorem lg(g:Graph)(k:Nat):classes g (k+1)=i3 (kX g (classes g k)):=by
 rw[iQ,←xI (f:=fun p:Nat×List Nat=>p.1::p.2) (fun a b e=>by injection e with e1 e2;exact Prod.ext e1 e2)]
 congr 1
 unfold kX EV;rw[Lc];rfl
theorem Gf{g:Graph}{a b:Nat}(ha:a < g.length)(hb:b < g.length):(classes g 0).getD a 0=(classes g 0).getD b 0↔(nodeAt g a).marks=(nodeAt g b).marks:=by
 rw[lj];exact Az (by rw[Kw,aT ha];rfl) (by rw[Kw,aT hb];rfl)
theorem IZ{g:Graph}{k a b:Nat}(ha:a < g.length)(hb:b < g.length):(classes g (k+1)).getD a 0=(classes g (k+1)).getD b 0 ↔
  (classes g k).getD a 0=(classes g k).getD b 0∧gY g (classes g k) a=gY g (classes g k) b:=by
 rw[lg,Az (r:=((classes g k).getD a 0,gY g (classes g k) a)) (s:=((classes g k).getD b 0,gY g (classes g k) b))
  (by unfold kX;rw[Kw,kz ha];rfl) (by unfold kX;rw[Kw,kz hb];rfl)]
 constructor
 ·intro e;injection e with e1 e2;exact⟨e1,e2⟩
 ·rintro⟨e1,e2⟩;rw[e1,e2]
theorem iD:∀l:List Nat,(l.foldr put []).Pairwise (· < ·)
 | []=>List.Pairwise.nil
 | a::l=>vF (iD l)
theorem gW{x:Nat}:∀l:List Nat,x∈l.foldr put []↔x∈l
 | []=>Iff.rfl
 | a::l=>by rw[List.foldr_cons,pM,gW l,List.mem_cons]
theorem og:∀{l m:List Nat},l.Pairwise (· < ·)->m.Pairwise (· < ·)->(∀x,x∈l↔x∈m)->l=m
 | [],[],_,_,_=>rfl
 | [],b::m,_,_,h=>absurd ((h b).mpr KJ) (by simp)
 | a::l,[],_,_,h=>absurd ((h a).mp KJ) (by simp)
 | a::l,b::m,hl,hm,h=>by
  rw[List.pairwise_cons] at hl hm
  have e:a=b:=by
   rcases List.mem_cons.mp ((h a).mp KJ) with q | q
   ·exact q
   ·rcases List.mem_cons.mp ((h b).mpr KJ) with q' | q'
    ·exact q'.symm
    ·have h1:=hm.1 a q;have h2:=hl.1 b q';omega
  subst e;rw[og hl.2 hm.2 fun x=>?_]
  constructor
  ·intro hx;rcases List.mem_cons.mp ((h x).mp (KH _ hx)) with q | q
   ·have:=hl.1 x hx;omega
   ·exact q
  ·intro hx;rcases List.mem_cons.mp ((h x).mpr (KH _ hx)) with q | q
   ·have:=hm.1 x hx;omega
   ·exact q
theorem i8{g:Graph}{c:List Nat}{i x:Nat}:x∈gY g c i↔∃j∈(nodeAt g i).next,c.getD j 0=x:=by
 unfold gY;rw[gW,Ls]
theorem Ab(g:Graph)(c:List Nat)(i:Nat):(gY g c i).Pairwise (· < ·):=iD _
theorem Fv{g:Graph}{c:List Nat}{a b:Nat}:gY g c a=gY g c b↔(∀i∈(nodeAt g a).next,∃j∈(nodeAt g b).next,c.getD i 0=c.getD j 0)∧∀j∈(nodeAt g b).next,∃i∈(nodeAt g a).next,c.getD i 0=c.getD j 0:=by
 constructor
 ·intro e;refine⟨fun i hi=>?_,fun j hj=>?_⟩
  ·obtain⟨j,hj,q⟩:=i8.mp (show c.getD i 0∈gY g c b from by rw[←e];exact i8.mpr ⟨i,hi,rfl⟩)
   exact⟨j,hj,q.symm⟩
  ·obtain⟨i,hi,q⟩:=i8.mp (show c.getD j 0∈gY g c a from by rw[e];exact i8.mpr ⟨j,hj,rfl⟩)
   exact⟨i,hi,q⟩
 ·rintro⟨h1,h2⟩;refine og (Ab ..) (Ab ..) fun x=>?_;rw[i8,i8]
  constructor
  ·rintro⟨i,hi,rfl⟩;obtain⟨j,hj,e⟩:=h1 i hi;exact⟨j,hj,e.symm⟩
  ·rintro⟨j,hj,rfl⟩;obtain⟨i,hi,e⟩:=h2 j hj;exact⟨i,hi,e⟩
structure vg(g:Graph)(a b k:Nat):Prop where
 now:(classes g k).getD a 0≠(classes g k).getD b 0
 bef:∀j,j < k->(classes g j).getD a 0=(classes g j).getD b 0
theorem iH{g:Graph}{a b k:Nat}(h:parts g a b=some k):vg g a b k∧k≤g.length:=by
 unfold parts at h;have hk:k < g.length+1:=List.mem_range.mp (List.mem_of_find?_eq_some h);have hp:=List.find?_some h;obtain⟨k',e,h2,h3,h4⟩:=iJ (p:=fun k=>(classes g k).getD a 0 != (classes g k).getD b 0) hk hp
 have e':k'=k:=by
  have:some k'=some k:=e.symm.trans h;exact LS this
 subst e';exact⟨⟨by simpa using h3,fun j hj=>by simpa using h4 j hj⟩,by omega⟩
theorem CN{g:Graph}{a b k:Nat}(h:vg g a b k)(hk:k≤g.length):parts g a b=some k:=by
 unfold parts;obtain⟨k',e,h2,h3,h4⟩:=iJ (n:=g.length+1) (K:=k) (p:=fun k=>(classes g k).getD a 0 != (classes g k).getD b 0) (by omega) (by simpa using h.now)
 have e':k'=k:=by
  rcases Nat.lt_or_ge k' k with q | q
  ·have:=h.bef k' q;exact absurd this (by simpa using h3)
  ·omega
 subst e';exact e
theorem D9{g:Graph}{a b k:Nat}(hk:k≤g.length)(h:(classes g k).getD a 0≠(classes g k).getD b 0):∃j,j≤k∧parts g a b=some j:=by
 obtain⟨k',e,h2,h3,h4⟩:=iJ (n:=g.length+1) (K:=k) (p:=fun k=>(classes g k).getD a 0 != (classes g k).getD b 0) (by omega) (by simpa using h)
 exact⟨k',h2,e⟩
def oJ(g:Graph)(c:List Nat)(a b:Nat):List Nat:=(nodeAt g a).next.filter fun i=>!((nodeAt g b).next.any fun j=>c.getD i 0==c.getD j 0)
def eA(g:Graph)(c:List Nat)(a b:Nat):Option Nat:=(nodeAt g a).next.find? fun i=>!((nodeAt g b).next.any fun j=>c.getD i 0==c.getD j 0)
theorem yD(g:Graph)(c:List Nat)(a b:Nat):((nodeAt g b).next.find? fun j=>!((nodeAt g a).next.any fun i=>c.getD i 0==c.getD j 0))=eA g c b a:=by
 unfold eA
 congr 1
 funext j
 congr 2
 funext i
 exact Bool.beq_comm
theorem oN{g:Graph}{c:List Nat}{a b i:Nat}(h:eA g c a b=some i):∃r,oJ g c a b=i::r:=jG h
theorem zy{g:Graph}{c:List Nat}{a b:Nat}(h:eA g c a b=none):oJ g c a b=[]:=by
 unfold oJ;rw[List.filter_eq_nil_iff];intro x hx;exact LF.mp h x hx
theorem fW{g:Graph}{c:List Nat}{a b i:Nat}(h:eA g c a b=some i):i∈(nodeAt g a).next∧∀j∈(nodeAt g b).next,c.getD i 0≠c.getD j 0:=by
 refine⟨List.mem_of_find?_eq_some h,fun j hj e=>?_⟩;have:=List.find?_some h;rw[L5,List.any_eq_false] at this;exact this j hj (by rw[e];exact beq_self_eq_true _)
def Ap(x y:Nat):Option Nat:=(List.range MARKS).find? fun m=>x.testBit m != y.testBit m
theorem sf:∀x,x < 16->∀y,y < 16->x≠y->(Ap x y).isSome=true:=by decide +kernel
theorem lD{g:Graph}{a b n m:Nat}(h:parts g a b=some 0)(hm:Ap (nodeAt g a).marks (nodeAt g b).marks=some m) :
  apart g (n+1) a b=if(nodeAt g a).marks.testBit m=true then .mark m else .not (.mark m):=by
 unfold apart;rw[h];dsimp only;rw[show((List.range MARKS).find? fun m=>(nodeAt g a).marks.testBit m != (nodeAt g b).marks.testBit m)=some m from hm]
theorem lS{g:Graph}{a b n k i:Nat}(h:parts g a b=some (k+1))(hi:eA g (classes g k) a b=some i) :
  apart g (n+1) a b=.next (conj ((nodeAt g b).next.map fun j=>apart g n i j)):=by
 conv=>lhs;unfold apart
 rw[h];dsimp only;rw[show((nodeAt g a).next.find? fun i=>!((nodeAt g b).next.any fun j=>(classes g k).getD i 0==(classes g k).getD j 0))=some i from hi]
theorem oz{g:Graph}{a b n k i:Nat}(h:parts g a b=some (k+1))(hn:eA g (classes g k) a b=none)(hi:eA g (classes g k) b a=some i) :
  apart g (n+1) a b=.not (.next (conj ((nodeAt g a).next.map fun j=>apart g n i j))):=by
 conv=>lhs;unfold apart
 rw[h];dsimp only;rw[show((nodeAt g a).next.find? fun i=>!((nodeAt g b).next.any fun j=>(classes g k).getD i 0==(classes g k).getD j 0))=none from hn]
 dsimp only;rw[yD,hi]
structure A7(g:Graph):Prop where
 nx:∀i j,i < g.length->j∈(nodeAt g i).next->j < g.length
 mr:∀i,i < g.length->(nodeAt g i).marks < 16
theorem qr{g:Graph}{a b k:Nat}(ha:a < g.length)(hb:b < g.length)(h:vg g a b (k+1))(hn:eA g (classes g k) a b=none):∃i,eA g (classes g k) b a=some i:=by
 cases e:eA g (classes g k) b a with
 | some i=>exact⟨i,rfl⟩
 | none =>
  exfalso
  apply h.now;rw[IZ ha hb];refine⟨h.bef k (LO _),Fv.mpr ⟨fun i hi=>?_,fun j hj=>?_⟩⟩
  ·have:=LF.mp hn i hi;simp only[L5,Bool.not_eq_false] at this;obtain⟨j,hj,q⟩:=List.any_eq_true.mp this;exact⟨j,hj,eq_of_beq q⟩
  ·have:=LF.mp e j hj;simp only[L5,Bool.not_eq_false] at this;obtain⟨i,hi,q⟩:=List.any_eq_true.mp this;exact⟨i,hi,(eq_of_beq q).symm⟩
theorem fu{g:Graph}{a b k i j:Nat}(hk:k≤g.length)(hi:eA g (classes g k) a b=some i)(hj:j∈(nodeAt g b).next):∃k',k'≤k∧parts g i j=some k' :=
 D9 hk ((fW hi).2 j hj)
theorem rB{g:Graph}(S:A7 g):∀(k:Nat)(a b n m:Nat),a < g.length->b < g.length->parts g a b=some k->k < n->k < m->apart g n a b=apart g m a b:=by
 intro k
 induction k using Nat.strongRecOn with
 | ind k ih =>
  intro a b n m ha hb h hn hm;obtain⟨n,rfl⟩:∃n',n=n'+1:=⟨n - 1,by omega⟩
  obtain⟨m,rfl⟩:∃m',m=m'+1:=⟨m - 1,by omega⟩
  obtain⟨P,hl⟩:=iH h;cases k with
  | zero =>
   have ne:(nodeAt g a).marks≠(nodeAt g b).marks:=fun e=>P.now ((Gf ha hb).mpr e);obtain⟨i,hi⟩:=Option.isSome_iff_exists.mp (sf _ (S.mr a ha) _ (S.mr b hb) ne);rw[lD h hi,lD h hi]
  | succ k =>
   cases e:eA g (classes g k) a b with
   | some i =>
    rw[lS h e,lS h e];refine congrArg (fun l=>F.next (conj l)) (List.map_congr_left fun j hj=>?_);obtain⟨k',h1,h2⟩:=fu (by omega) e hj
    exact ih k' (by omega) i j n m (S.nx a i ha (fW e).1) (S.nx b j hb hj) h2 (by omega) (by omega)
   | none =>
    obtain⟨i,hi⟩:=qr ha hb P e;rw[oz h e hi,oz h e hi];refine congrArg (fun l=>F.not (F.next (conj l))) (List.map_congr_left fun j hj=>?_);obtain⟨k',h1,h2⟩:=fu (by omega) hi hj
    exact ih k' (by omega) i j n m (S.nx b i hb (fW hi).1) (S.nx a j ha hj) h2 (by omega) (by omega)
def gV(g:Graph)(a b:Nat):F:=apart g (12+1) a b
theorem Bd{g:Graph}(S:A7 g){a b k i:Nat}(ha:a < g.length)(hb:b < g.length)(h:parts g a b=some (k+1))(h5:k < 12)(hi:eA g (classes g k) a b=some i) :
  gV g a b=.next (conj ((nodeAt g b).next.map (gV g i))):=by
 obtain⟨P,hl⟩:=iH h;refine(lS (n:=12) h hi).trans (congrArg (fun l=>F.next (conj l)) (List.map_congr_left fun j hj=>?_));obtain⟨k',h1,h2⟩:=fu (by omega) hi hj
 exact rB S k' i j 12 13 (S.nx a i ha (fW hi).1) (S.nx b j hb hj) h2 (by omega) (by omega)
theorem El{g:Graph}(S:A7 g){a b k i:Nat}(ha:a < g.length)(hb:b < g.length)(h:parts g a b=some (k+1))(h5:k < 12)(hn:eA g (classes g k) a b=none)(hi:eA g (classes g k) b a=some i) :
  gV g a b=.not (.next (conj ((nodeAt g a).next.map (gV g i)))):=by
 obtain⟨P,hl⟩:=iH h;refine(oz (n:=12) h hn hi).trans (congrArg (fun l=>F.not (F.next (conj l))) (List.map_congr_left fun j hj=>?_));obtain⟨k',h1,h2⟩:=fu (by omega) hi hj
 exact rB S k' i j 12 13 (S.nx b i hb (fW hi).1) (S.nx a j ha hj) h2 (by omega) (by omega)
theorem B9:∀(l:List F)(f:F),l≠[]->conj (f::l)=.and f (conj l)
 | [],_,h=>absurd rfl h
 | _::_,_,_=>rfl
theorem DK(f:F):conj [f]=f:=rfl
theorem rq:∀{l:List F},(∀f∈l,fok f)->fok (conj l)
 | [],_=>by unfold conj fok;trivial
 | [f],h=>h f KJ
 | f::g::r,h=>⟨h f KJ,rq (l:=g::r) fun x hx=>h x (KH _ hx)⟩
end VM
namespace Can
open PySem PySem.Spec PyProof.Rows L2 XL
variable{P:Program}{w:World}{K:Frag}{mg:Str->Option Value}{base:Heap}{C CG CF CT CR CY:Addr}
def K5(r:Addr)(H H':Hp):Prop:=∀b o,H b=some o->b≠r->H' b=some o
def Ki(l:Addr)(t:Int):List (Str×V):=[("nodes",.ref l),("turn",.int t)]
structure GP(K:Frag)(CY:Addr):Prop where
 cl:wN K CY
 nn:cQ K CY "nodes"
 nt:cQ K CY "turn"
inductive Jc(CY:Addr)(H:Hp)(p:Addr)(ns:List Nat)(t:Int):Prop
 | mk (dx l:_):H p=some (.ins CY dx (Ki l t))->H l=some (.lst (ns.map nat))->Jc CY H p ns t
inductive pQ(CY:Addr)(vs:List V)(H:Hp)(Q:VK)(z3_:XK):Prop
 | mk (p dx l:Addr) (t:Int):vs=[.ref p,.ref l,.int t]->H p=some (.ins CY dx [])->(∀H':Hp,H' p=some (.ins CY dx (Ki l t))->K5 p H H'->Q .non H')->pQ CY vs H Q z3_
structure Jg(P:Program)(w:World)(K:Frag)(mg:Str->Option Value)(base:Heap)(C CY:Addr):Prop where
 ex:∃f fd,Mk K CY f∧dh P w K mg base (ic P w C) 1 f fd ["self","nodes","turn"] (pQ CY)∧mg "Way"=some (.ref CY)∧d7 K fd ["self","nodes","turn"] []
inductive kN(CG:Addr)(vs:List V)(H:Hp)(Q:VK)(z3_:XK):Prop
 | mk (a t lm ln:Addr) (g:Gr) (x:List Bool) (i j:Nat):vs=[.ref a,.ref t,nat i]->nH CG H a lm ln g->il g->mf H t x->x.length=g.length->i < g.length->(nodeAt g i).next.find? (Vbavai.mem x)=some j->(∀H':Hp,aD H H'->Q (nat j) H')->kN CG vs H Q z3_
theorem il.sound{g:Gr}(G:il g):VM.A7 g:=⟨fun i j hi hj=>G.nx _ (KA (VM.aT hi)) j hj,fun i hi=>Nat.lt_succ_of_le (G.mks _ (KA (VM.aT hi)))⟩
theorem nH.list{CG:Addr}{H:Hp}{a lm ln:Addr}{g:Gr}{i:Nat}(G:nH CG H a lm ln g)(hi:i < g.length):∃(ns:List Addr)(l:Addr),H ln=some (.lst (ns.map V.ref))∧(ns.map V.ref)[i]?=some (.ref l)∧H l=some (.lst ((nodeAt g i).next.map nat)):=by
 obtain⟨_,_,ns,h3,h4,h5⟩:=G;have e:ns[i]?=some (ns[i]'(by omega)):=Kz _
 exact⟨ns,_,h4,by rw[Kw,e];rfl,h5 i _ _ e (VM.aT hi)⟩
theorem rV{l:List Nat}{p:Nat->Bool}{j:Nat}(h:l.find? p=some j)(ho:l.Pairwise (· < ·)):j∈l.filter p∧∀y∈l.filter p,j≤y:=by
 obtain⟨r,e⟩:=VM.jG h;have hp:(l.filter p).Pairwise (· < ·):=ho.filter p;rw[e] at hp ⊢;rw[List.pairwise_cons] at hp;refine⟨KJ,fun y hy=>?_⟩;rcases List.mem_cons.mp hy with q | q
 ·omega
 ·have:=hp.1 y q;omega
theorem xW{f:Addr}{fd:FuncData}(F:yd K "__init__" "Way.__init__" m7 f fd)(TY:GP K CY):dh P w K mg base (ic P w C) 1 f fd ["self","nodes","turn"] (pQ CY):=by
 refine Gn F yU fun cdv A outer s H vs Q E hr h=>?_;obtain⟨p,dx,l,t,rfl,hp,k⟩:=h;refine⟨_,ae (eQ (pv 0) (pv 1) rfl) (ai (eQ (pv 0) (pv 2) rfl)),?_⟩;refine⟨_,rfl,_,rfl,p,CY,dx,[],rfl,hp,TY.cl,TY.nn,(by show 0 < 1000;decide),?_⟩
 refine⟨_,rfl,_,rfl,p,CY,dx,_,rfl,a9,TY.cl,TY.nt,(by show 1 < 1000;decide),?_⟩
 rw[eG];exact k _ a9 fun b o e hb=>by rw[ak hb];exact e
theorem qh{H1:Hp}{l x dx:Addr}{t:Int}{R:VK}{E:XK}(hx:H1 x=none)(hdx:H1 dx=none){ns:List Nat}(hl:H1 l=some (.lst (ns.map nat)))(k:∀H',Jc CY H' x ns t->aD H1 H'->R .non H') :
  pQ CY [.ref x,.ref l,.int t] (upd (upd H1 dx (.own x)) x (.ins CY dx [])) R E:=by
 have old:∀b o,H1 b=some o->b≠x∧upd (upd H1 dx (.own x)) x (.ins CY dx []) b=some o:=fun b o e=>⟨aq e hx,by rw[ak (aq e hx),ak (aq e hdx)];exact e⟩
 exact⟨x,dx,l,t,rfl,a9,fun H' e kp=>k H' ⟨dx,l,e,kp _ _ (old _ _ hl).2 (old _ _ hl).1⟩ fun b o e'=>kp _ _ (old _ _ e').2 (old _ _ e').1⟩
theorem sO(F:aK K mg "least_next" iG)(T:j3 mg)(TG:gw K CG):aS P w K mg base C 1 "least_next" ["graph","truth","node"] (kN CG):=by
 refine F.cal mU fun f cdv A outer s H vs Q E hr h=>?_;obtain⟨a,t,lm,ln,g,x,i,j,rfl,G,GO,ht,lx,hi,hf,k⟩:=h;have nd:=mU.nd;obtain⟨dx,hobj⟩:=G.obj;obtain⟨ns,l,hn,hl,hL⟩:=G.list hi;have hm:=KA (VM.aT hi);have h4:=GO.out _ hm
 refine⟨_,ai (aw (aQ (zE rfl) rfl T.min boot_min (a8 (du (own:=[("there",3)]) (tt:=tB (zj (uB K) (bL 1) (bL 3))) rfl nd (bF (aY aF (aG (pv 0) rfl) (pv 2) (fun _ _=>rfl))) (ba rfl) (fun _ _ _ _ _=>aO (i:=3) nd rfl (Or.inl rfl))
  (fun _ _ _ _ _=>iN (bQ (aY aF (pv 1) (pv 3) (fun _ _=>rfl)))) (fun _ _ _ _ _=>pv 3)) aa))),?_⟩
 refine⟨_,rfl,a,CG,dx,_,_,rfl,hobj,TG.cl,TG.nn,rfl,_,rfl,ln,_,_,_,rfl,rfl,aH.of hn,d9 hl,l,rfl,⟨_,aH.of hL⟩,fun D hD=>?_⟩;refine cj (K:=K) (a:=l) (xs:=(nodeAt g i).next.map nat) (fun n H'=>H' D=some (.lst ((((nodeAt g i).next.take n).filter (Vbavai.mem x)).map nat))∧aD H H') ⟨a9,ah hD⟩ (fun i H' _ p=>aH.of (p.2 _ _ hL)) ?_ ?_
 ·rintro n v H' hv ⟨p1,p2⟩;rw[Kw] at hv;obtain⟨m,hmn,rfl⟩:=KF.mp hv;have hmx:m < x.length:=by rw[lx];exact GO.nx _ hm m (KA hmn)
  refine⟨rfl,_,rfl,_,rfl,t,_,_,_,rfl,rfl,aH.of (p2 _ _ ht),vQ hmx,_,rfl,?_⟩;rw[bS hmn,LM,LK,LL];cases q:Vbavai.mem x m with
  | true =>
   refine⟨_,rfl,_,p1,?_,?_,bh p2 hD⟩
   ·rw[Kv];refine br (LI (Lg ..) ?_);rw[L9];omega
   ·rw[a9,if_pos rfl,KO];rfl
  | false =>
   refine⟨?_,p2⟩;rw[if_neg KM,Lp];exact p1
 ·rintro H' ⟨p1,p2⟩;rw[Kv,Lo] at p1;obtain⟨f1,f2⟩:=rV hf (GO.ord _ hm);refine⟨D,((nodeAt g i).next.filter (Vbavai.mem x)).map (fun n:Nat=>(n:Int)),rfl,aH.of (by rw[p1,Lc];rfl),?_,fun m hm1 hm2=>?_⟩
  ·rw[Kv];exact List.length_pos_of_mem f1
  ·obtain⟨y,hy,rfl⟩:=Ls.mp hm1;have e1:=f2 y hy;have e2:=hm2 (j:Int) (Ls.mpr ⟨j,f1,rfl⟩);have:y=j:=by omega
   subst this;exact k H' p2
end Can
namespace VM
open Vbavai
theorem jH(g:Graph)(x y:List Bool):∀k i,(walk g x y k i).length≤k+1
 | 0,i=>KG _
 | k+1,i=>by
  unfold walk
  split
  ·simp
  ·rename_i j _
   have:=jH g x y k j;rw[Kx];omega
theorem lP(g:Graph)(x:List Bool):∀k seen i,(circle g x k seen i).1.length≤seen.length+k
 | 0,seen,i=>by unfold circle;simp
 | k+1,seen,i=>by
  unfold circle
  split
  ·simp
  ·split
   ·simp
   ·rename_i j _
    have:=lP g x k (i::seen) j;rw[Kx] at this;omega
theorem zc:∀{l:List Nat}{c m y:Nat},m < l.idxOf c->l[m]?=some y->y≠c
 | [],_,_,_,_,hy=>by simp at hy
 | a::l,c,0,y,h,hy=>by
  intro e;simp at hy;subst hy e;simp at h
 | a::l,c,m+1,y,h,hy=>by
  rw[List.getElem?_cons_succ] at hy;refine zc (l:=l) (m:=m) ?_ hy;rw[List.idxOf_cons] at h
  by_cases e:a=c
  ·subst e;simp at h
  ·rw[beq_false_of_ne e] at h;simp at h;omega
theorem AW{g:Graph}{a b m:Nat}(h:parts g a b=some 0)(hm:Ap (nodeAt g a).marks (nodeAt g b).marks=some m) :
  gV g a b=if(nodeAt g a).marks.testBit m=true then .mark m else .not (.mark m):=lD (n:=12) h hm
end VM
namespace XS
open PySem
def zX(t:SetTable)(n:Nat)(h:Int):SetTable:=match t.freeSlot h with
 | some (slot,_)=>(t.put slot).1.orStandIn (n+1)
 | none=>t.standIn (n+1)
def HK(t:SetTable):Nat->Nat
 | 0=>0
 | i+1=>t.place.getD i 0+1
def dY(m:Nat):List Nat:=(List.range 8).filter fun i=>m.testBit i
def T(led:Bool)(m:Nat):SetTable:={mask:=7,place:=(dY m).toArray,dummies:=#[],finger:=0,led,moves:=0,plain:=true}
def GC(t:SetTable):Nat:=t.place.toList.foldl (fun m p=>m+2 ^ p) 0
def A4(led:Bool)(m:Nat):Bool:=(T led m).fits (dY m).length&&!(T led m).tooFull&&(List.range ((dY m).length+1)).all fun i=>SetTable.below (T led m).place (HK (T led m) i)==i
def Av(led:Bool)(m:Nat)(h:Nat):Bool :=
 (fun t=>(fun m'=>decide (t=T led m')&&decide ((dY m').length=(dY m).length+1)&&decide (m' < 256)) (GC t)) (zX (T led m) (dY m).length (h:Int))
theorem rl:∀led:Bool,∀m,m < 256->(dY m).length≤4->A4 led m=true:=by decide +kernel
theorem zM:∀m,m < 256->(dY m).length≤3->∀h,h < 12->Av false m h=true:=by decide +kernel
theorem BB:∀m,m < 256->(dY m).length≤3->∀h,h < 12->Av true m h=true:=by decide +kernel
end XS
namespace XS
open PySem PyProof.Rows
theorem BK(led:Bool)(m:Nat)(hm:m < 256)(hl:(dY m).length≤3)(h:Nat)(hh:h < 12):∃m',zX (T led m) (dY m).length (h:Int)=T led m'∧(dY m').length=(dY m).length+1∧m' < 256:=by
 have q:Av led m h=true:=by
  cases led
  ·exact zM m hm hl h hh
  ·exact BB m hm hl h hh
 unfold Av at q;simp only[L7,decide_eq_true_eq] at q;exact⟨_,q.1.1,q.1.2,q.2⟩
def j9(es:List (Int×Value))(ks:List Nat):Prop:=Paired (fun(e:Int×Value)(k:Nat)=>e.1=hashInt (k:Int)∧∃t,e.2=Value.int (k:Int) t) es ks
structure lE(h:Heap)(a:Addr)(led:Bool)(l:List Nat):Prop where
 ex:∃o es ep m ks,h.get? a=some o∧o.ExactSet∧o.data=.set es ep (T led m)∧m < 256∧(dY m).length=l.length∧j9 es.toList ks∧ks.Perm l
 sm:∀k∈l,k < 12
 nd:l.Nodup
 le:l.length≤4
theorem yJ:∀k,k < 12->hashInt ((k:Nat):Int)=(k:Int):=by decide +kernel
section
variable{prog:Program}{w:World}
theorem j9.elems:∀{es:List (Int×Value)}{ks:List Nat},j9 es ks->ElemsOf (intKind prog w) es
 | _,_,.nil=>fun e he=>by cases he
 | _,_,.cons (b:=k) h t=>fun e he=>by
  rcases List.mem_cons.mp he with q | q
  ·subst q;obtain⟨h1,tk,h2⟩:=h;exact⟨⟨(k:Int),by rw[h2];exact intKind_is ..,h1⟩,by rw[h2];rfl⟩
  ·exact j9.elems t e q
theorem j9.find:∀{es:List (Int×Value)}{ks:List Nat},j9 es ks->∀k:Nat,(∃e∈es,(intKind prog w).is (k:Int) e.2=true)↔k∈ks
 | _,_,.nil,k=>by simp
 | _,_,.cons (a:=e0) (b:=k0) h t,k=>by
  have ih:=j9.find t k;obtain⟨h1,tk,h2⟩:=h
  constructor
  ·rintro⟨e,he,hi⟩;rcases List.mem_cons.mp he with q | q
   ·subst q;rw[h2] at hi;have:=(intKind prog w).inj _ _ _ hi (intKind_is prog w (k0:Int) tk);have:k=k0:=by omega
    rw[this];exact KJ
   ·exact KH _ (ih.mp ⟨e,q,hi⟩)
  ·intro hk;rcases List.mem_cons.mp hk with q | q
   ·subst q;exact⟨e0,KJ,by rw[h2];exact intKind_is ..⟩
   ·obtain⟨e,he,hi⟩:=ih.mpr q;exact⟨e,KH _ he,hi⟩
end
theorem j9.len{es:List (Int×Value)}{ks:List Nat}(h:j9 es ks):es.length=ks.length:=Paired.length h
theorem j9.perm{es es':List (Int×Value)}(p:es'.Perm es):∀{ks:List Nat},j9 es ks->∃ks',j9 es' ks'∧ks'.Perm ks:=by
 induction p with
 | nil=>intro ks h;cases h;exact⟨[],.nil,.refl _⟩
 | cons x p ih =>
  intro ks h;cases h with
  | cons h t =>
   obtain⟨ks',h1,h2⟩:=ih t;exact⟨_,.cons h h1,h2.cons _⟩
 | swap x y l =>
  intro ks h;cases h with
  | cons h t=>cases t with
   | cons h' t'=>exact⟨_,.cons h' (.cons h t'),List.Perm.swap ..⟩
 | trans p1 p2 ih1 ih2 =>
  intro ks h;obtain⟨k1,a1,b1⟩:=ih2 h;obtain⟨k2,a2,b2⟩:=ih1 a1;exact⟨k2,a2,b2.trans b1⟩
theorem j9.snoc:∀{es:List (Int×Value)}{ks:List Nat}{k:Nat}{t:Tok},j9 es ks->j9 (es++[(hashInt (k:Int),Value.int (k:Int) t)]) (ks++[k])
 | _,_,_,t,.nil=>.cons ⟨rfl,t,rfl⟩ .nil
 | _,_,_,t,.cons h r=>.cons h (j9.snoc r)
theorem E9(t:SetTable)(es:Array (Int×Value))(h:Int)(x:Value):(layNew t es h x).2.1=zX t es.size h:=by
 have hp:=layNew_perm t es h x;unfold layNew zX at *;cases e:t.freeSlot h with
 | none=>rfl
 | some p =>
  obtain⟨slot,dm⟩:=p;rw[e] at hp;dsimp only at hp ⊢;have:=hp.length_eq;rw[Lu,Lu,Array.size_push] at this;rw[this]
section
variable{prog:Program}{w:World}{A:Around}{E:Value->Shared->Prop}{s:Shared}
theorem Bu{a:Addr}{led:Bool}{l:List Nat}{k:Nat}{t:Tok}{Q:Bool->Shared->Prop}(S:lE s.heap a led l)(hk:k < 12)(hl:k∈l∨l.length≤3)
  (q:∀b h',Heap.SameBut a s.heap h'->lE h' a led (if k∈l then l else l++[k])->Q b {s with heap:=h'}):wpAny (model prog w) A (setAddHashed a (.int (k:Int) t) (hashInt (k:Int))) Q E s:=by
 obtain⟨o,es,ep,m,ks,ho,hex,hd,hm,hml,he,hp⟩:=S.ex;have hel:ElemsOf (intKind prog w) es.toList:=he.elems;have esz:es.size=l.length:=by rw[←Lu,he.len,hp.length_eq]
 have hb:es.size < scanBound:=by rw[esz];have:=S.le;show _ < 4096;omega
 have gd:=rl led m hm (by rw[hml];exact S.le)
 unfold A4 at gd;rw[L7,L7] at gd;have hf:(T led m).fits es.size=true:=by rw[esz,←hml];exact gd.1.1
 unfold setAddHashed setAddHashedIn;refine wpAny_holding (wpAny_bind (wpAny_setState_of ho hd hf ?_));dsimp only;rw[byScan_of (knd:=intKind prog w) rfl hb hel];simp only[↓reduceIte];unfold setAddByScan;refine wpAny_bind (wpAny_bind (wpAny_rule (wpAny_bind (wpAny_setScan_of (knd:=intKind prog w) (k:=(k:Int)) (intKind_is ..) ho hd hf hel ?_))));cases hr:List.findIdx? (fun e=>(intKind prog w).is (k:Int) e.2) es.toList with
 | some j =>
  dsimp only;obtain⟨hj,hpj,_⟩:=List.findIdx?_eq_some_iff_getElem.mp hr;have hin:k∈l:=hp.mem_iff.mp ((he.find (prog:=prog) (w:=w) k).mp ⟨_,List.getElem_mem hj,hpj⟩);refine wpAny_pure (wpAny_pure ?_);have:=q false s.heap (Heap.SameBut.refl a s.heap) (by rw[if_pos hin];exact S)
  cases s;exact this
 | none =>
  dsimp only
  have hout:k∉l:=fun z=>by
   obtain⟨e,hme,hie⟩:=(he.find (prog:=prog) (w:=w) k).mpr (hp.mem_iff.mpr z);have:=List.findIdx?_eq_none_iff.mp hr e hme;rw[hie] at this;exact Bool.noConfusion this
  have hl3:l.length≤3:=hl.resolve_left hout;have hperm:=layNew_perm (T led m) es (hashInt (k:Int)) (.int (k:Int) t);obtain⟨m',e1,e2,e3⟩:=BK led m hm (by rw[hml];exact hl3) k hk
  have hnext:(layNew (T led m) es (hashInt (k:Int)) (.int (k:Int) t)).2.1=T led m':=by rw[E9,yJ k hk,esz,←hml,e1]
  generalize hL:layNew (T led m) es (hashInt (k:Int)) (.int (k:Int) t)=L at hperm hnext ⊢;obtain⟨es1,t1,wasD,gave⟩:=L;dsimp only at hperm hnext ⊢;subst hnext;rw[Array.toList_push] at hperm;obtain⟨ks1,h1,p1⟩:=j9.perm hperm (he.snoc (k:=k) (t:=t))
  have hgw:∀(b:Bool){s₁:Shared}{Q':Unit->Shared->Prop},Q' () s₁->wpAny (model prog w) A (match b with | true=>rule "set.scan.the-table-gave-way" | false=>pure ()) Q' E s₁:=fun b s₁ Q' hq=>by
   cases b<;>first | exact wpAny_pure hq | exact wpAny_rule hq
  refine wpAny_bind (hgw _ ?_)
  have hS:∀h',h'.get? a=some {o with data:=.set es1 (ep+1) (T led m')}->lE h' a led (l++[k]):=fun h' e =>
   ⟨⟨_,es1,ep+1,m',ks1,e,hex,rfl,e3,by rw[e2,hml,Ky];rfl,h1,p1.trans (hp.append_right [k])⟩,fun x hx=>by
    rcases Lb.mp hx with z | z
    ·exact S.sm x z
    ·rw[Lq.mp z];exact hk,by
    rw[List.nodup_append];exact⟨S.nd,by simp,fun x hx y hy z=>hout (by rw[←Lq.mp hy,←z];exact hx)⟩,by rw[Ky,KY];omega⟩
  have gd2:=rl led m' e3 (by rw[e2,hml];omega)
  unfold A4 at gd2;rw[L7,L7,L5] at gd2;rw[show(T led m').plain=true from rfl]
  simp only[↓reduceIte];rw[hashByValue_scannable 8 (show(Value.int (k:Int) t).scannable=true from rfl)]
  refine wpAny_bind (wpAny_pure ?_);simp only[plainKind,↓reduceIte];have z1:es1.size=l.length+1:=by rw[←Lu,h1.len,p1.length_eq,Ky,hp.length_eq];rfl
  refine wpAny_bind (wpAny_storeSet_of ho hd ?_ (fits_of_scanBound (by rw[z1];show _ < 4096;omega)))
  have ho1:(s.heap.update a (Obj.putSet es1 (T led m'))).get? a=some {o with data:=.set es1 (ep+1) (T led m')}:=by
   have:=Lw (Obj.putSet es1 (T led m')) ho (by rw[putSet_of es1 (T led m') hd];rfl)
   rw[putSet_of es1 (T led m') hd] at this;exact this
  rw[gd2.1.2,Bool.and_false];simp only[Bool.false_eq_true,↓reduceIte];refine wpAny_pure (wpAny_pure (q true _ (Heap.SameBut.update ..) ?_));rw[if_neg hout];exact hS _ ho1
end
def metN(l:List Nat):List Nat->List Nat
 | []=>l
 | k::r=>metN (if k∈l then l else l++[k]) r
theorem uf:∀(r l:List Nat)(k:Nat),metN l (r++[k])=if k∈metN l r then metN l r else metN l r++[k]
 | [],_,_=>rfl
 | a::r,l,k=>uf r _ k
theorem metN_mem:∀(r l:List Nat)(x:Nat),x∈metN l r↔x∈l∨x∈r
 | [],l,x=>by simp[metN]
 | k::r,l,x=>by
  unfold metN;rw[metN_mem r]
  by_cases h:k∈l
  ·rw[if_pos h,List.mem_cons]
   constructor
   ·rintro(z | z)
    ·exact .inl z
    ·exact .inr (.inr z)
   ·rintro(z | z | z)
    ·exact .inl z
    ·exact .inl (z▸h)
    ·exact .inr z
  ·rw[if_neg h,List.mem_cons,Lb,Lq,or_assoc]
theorem D5(r:List Nat):∀l:List Nat,(metN l r).length≤l.length+r.length:=by
 induction r with
 | nil=>intro l;exact KG _
 | cons k r ih =>
  intro l;unfold metN;have:=ih (if k∈l then l else l++[k]);rw[Kx]
  by_cases h:k∈l
  ·rw[if_pos h] at this ⊢;omega
  ·rw[if_neg h] at this ⊢;rw[Ky,KY] at this;omega
theorem lE.keep{h h':Heap}{a:Addr}{led:Bool}{l:List Nat}(S:lE h a led l)(k:∀o,h.get? a=some o->h'.get? a=some o):lE h' a led l:=by
 obtain⟨⟨o,es,ep,m,ks,ho,r⟩,b,c,d⟩:=S;exact⟨⟨o,es,ep,m,ks,k o ho,r⟩,b,c,d⟩
section
variable{prog:Program}{w:World}{A:Around}{R:Result->Shared->Prop}{I:Addr}{fp wr:List Addr}{G:Array GenState->Array GenState->Prop}{P:Nat->Value->Prop}{St:Nat->Shared->Prop}
theorem vf{ns:List Nat}(W:WalksS prog w A.in1 I fp wr G ns.length P St)(S:Addr)(led:Bool)(hSf:S∉fp)(hval:∀i v,P i v->∃t,v=.int ((ns.getD i 0:Nat):Int) t)(hsm:∀k∈ns,k < 12)(hlen:ns.length≤4) :
  ∀(d i:Nat)(s:Shared),ns.length - i=d->i≤ns.length->St i s->lE s.heap S led (metN [] (ns.take i)) →
   (∀s',Moved (S::wr) G s s'->lE s'.heap S led (metN [] ns)->R (.ok (.ret .none)) s')->codeAny (model prog w) A (.builtin "set.update.loop" ⟨[.ref S,.ref I],[]⟩) R s:=by
 have hSw:S∉wr:=fun z=>hSf (W.sub _ z);have up:∀b∈wr,b∈S::wr:=fun b z=>KH _ z;intro d
 induction d with
 | zero =>
  intro i s hd hi st hS hR;obtain rfl:i=ns.length:=by omega
  refine codeAny_builtin F.entry_set_update_loop ?_;rw[Around.under_plainId F.plain_set_update_loop _];show wpAny _ A.in1 (pyNext (.ref I) >>= _) _ _ s;refine wpAny_bind (W.done s _ _ st fun s' mv=>?_);show wpAny _ A.in1 (ret Value.none) _ _ s';rw[Lo] at hS;exact wpAny_pure (hR s' (mv.mono up) (hS.keep fun o e=>mv.heap S o hSw e))
 | succ d ih =>
  intro i s hd hi st hS hR;have lt:i < ns.length:=by omega
  have eg:ns[i]?=some (ns.getD i 0):=by rw[KP,Kz lt];rfl
  have hk:=hsm _ (KA eg);refine codeAny_builtin F.entry_set_update_loop ?_;rw[Around.under_plainId F.plain_set_update_loop _];show wpAny _ A.in1 (pyNext (.ref I) >>= _) _ _ s;refine wpAny_bind (W.item i s _ _ lt st fun v s' hP st' mv=>?_);obtain⟨t,rfl⟩:=hval i v hP;have hS1:=hS.keep (h':=s'.heap) fun o e=>mv.heap S o hSw e;show wpAny _ A.in1 (holding [Value.int ((ns.getD i 0:Nat):Int) t] (setAdd S (.int ((ns.getD i 0:Nat):Int) t)) >>= _) _ _ s';refine wpAny_bind (wpAny_holding ?_);unfold setAdd;refine wpAny_holding (wpAny_bind ((intKind prog w).pyHash (k:=((ns.getD i 0:Nat):Int)) (intKind_is ..) ?_))
  have hl3:ns.getD i 0∈metN [] (ns.take i)∨(metN [] (ns.take i)).length≤3:=.inr (by
   have:=D5 (ns.take i) [];rw[L0,L9] at this;omega)
  refine Bu (s:={s' with toks:=s'.toks+1}) hS1 hk hl3 fun b h' sb hS2=>?_
  have hS3:lE h' S led (metN [] (ns.take (i+1))):=by
   rw[List.take_succ,eg];rw[show(some (ns.getD i 0)).toList=[ns.getD i 0] from rfl,uf]
   exact hS2
  refine wpAny_pure ⟨plainId_quiet F.plain_set_update_loop _,ih (i+1) _ (by omega) lt (W.frame _ s' _ _ st' (Nat.le_succ _) fun b hb o e=>?_) hS3 fun s2 mv2 hS4=>?_⟩
  ·rw[sb.2 b (fun z:b=S=>hSf (by rw[←z];exact hb))];exact e
  ·refine hR s2 (Moved.trans W.gtrans ((mv.mono up).then_heap (Nat.le_succ _) fun b o hb e=>?_) mv2) hS4;rw[sb.2 b (fun z:b=S=>hb (by rw[z];exact KJ))];exact e
end
abbrev aZ(w:World):Bool:=w.params.followText "set-order"
section
variable{prog:Program}{w:World}{A:Around}{E:Value->Shared->Prop}{s:Shared}
abbrev bU(w:World):Obj:={cls:=.type "set",dict:=none,data:=.set #[] 0 (.fresh 0 0 (!aZ w))}
theorem BS(a:Value){Q:Value->Shared->Prop}(h:Q (.ref s.heap.objs.size) {s with heap:=s.heap.push (bU w)}):codeAny (model prog w) A (.call (.builtin "set.__new__") ⟨[.type "set",a],[]⟩) (wants Q E) s:=by
 refine codeAny_of_tree ?_;show wpAny _ A.in1 (do checkBuiltinCall "set.__new__" ⟨[.type "set",a],[]⟩;again (.builtin "set.__new__" ⟨[.type "set",a],[]⟩)) _ _ s
 refine wpAny_bind (wpAny_of_eq (F.newCall_set_1 a) (wpAny_pure ⟨plainId_quiet F.plain_set_new _,codeAny_builtin F.entry_set_new ?_⟩));rw[Around.under_plainId F.plain_set_new _];unfold Builtin.«set.__new__» Builtin.Frozenset.newClass;have hsub:=sub_set_self;obtain⟨hp,g,d,tk,os⟩:=s;dsimp only
 wp_walk
 refine wpAny_askSetting (wpAny_pure ?_);dsimp only;simp only[newObj];exact wpAny_bind (wpAny_alloc (wpAny_pure (wpAny_pure h)))
end
def zF(items:Array Value)(ns:List Nat):Prop:=items.size=ns.length∧∀(i:Nat)(v:Value),items[i]?=some v->∃t:Tok,v=Value.int ((ns.getD i 0:Nat):Int) t
section
variable{prog:Program}{w:World}{A:Around}{E:Value->Shared->Prop}{s:Shared}
theorem D6{l:Addr}{items:Array Value}{ns:List Nat}{R:Result->Shared->Prop}(hh:A.handled=none)(hl:s.heap.IsList l items)(hi:zF items ns)(hsm:∀k∈ns,k < 12)(hlen:ns.length≤4)
  (q:∀(h':Heap) (tk:Nat),lE h' s.heap.objs.size (!aZ w) (metN [] ns)->(∀b o,b < s.heap.objs.size->s.heap.get? b=some o->h'.get? b=some o)->R (.ok (.ret .none)) {s with heap:=h',toks:=tk}) :
  codeAny (model prog w) A (.call (.builtin "set.__init__") ⟨[.ref s.heap.objs.size,.ref l],[]⟩) R {s with heap:=s.heap.push (bU w)}:=by
 have hS:(s.heap.push (bU w)).get? s.heap.objs.size=some (bU w):=KD _ rfl;have hT:Shared.TypeIs {s with heap:=s.heap.push (bU w)} (.ref s.heap.objs.size) "set":=⟨_,hS,rfl⟩
 refine codeAny_call_builtin F.called_set.init.plain F.entry_set_init (check_set_init_1 hT ?_);obtain⟨ol,hol,hcl,nl,hdl⟩:=hl;obtain⟨ocls,odict,odata,oslots⟩:=ol;simp only at hcl hdl;subst hcl hdl;have hol1:(s.heap.push (bU w)).get? l=some {cls:=.type "list",dict:=odict,data:=.seq items nl,slots:=oslots}:=KB _ hol;have hl1:(s.heap.push (bU w)).IsList l items:=⟨_,hol1,rfl,nl,rfl⟩;have hsls:=F.sub_list_set;have hslf:=F.sub_list_frozenset;have hne:(Value.type "list"==Value.type "dict")=false:=by decide
 have hls:l < s.heap.objs.size:=KC hol;have sz1:(s.heap.push (bU w)).objs.size=s.heap.objs.size+1:=LP ..;unfold Builtin.«set.__init__» noKeywords Builtin.Frozenset.updateFrom;generalize hPI:pyIter=PI
 wp_walk
 subst hPI;refine wpAny_pyIter_list hl1 (wpAny_bind (wpAny_runValue ?_));have hneI:l≠(s.heap.push (bU w)).objs.size:=by rw[sz1];exact Lj (Nat.lt_succ_of_lt hls)
 have hSf:s.heap.objs.size∉[(s.heap.push (bU w)).objs.size,l]:=by
  rw[sz1];intro z;rcases List.mem_cons.mp z with e | e
  ·exact absurd e (Lj (LO _))
  ·rw[Lq] at e;exact absurd hls (by rw[e];exact Li _)
 have hh3:A.in1.in1.handled=none:=by simp[hh]
 have W:=(Walks.list (prog:=prog) (w:=w) hh3 (s.heap.push (bU w)).objs.size l hneI items).toS;rw[hi.1] at W;refine vf W s.heap.objs.size (!aZ w) hSf hi.2 hsm hlen (ns.length - 0) 0 _ rfl (KZ _) ?_ ?_ fun s' mv hS'=>?_
 ·exact⟨⟨_,KD _ rfl,rfl,rfl⟩,hl1.push _⟩
 ·refine⟨⟨bU w,#[],0,0,[],KB _ hS,⟨rfl,rfl,rfl⟩,?_,by decide,by rw[List.take_zero];rfl,.nil,.refl _⟩,fun k z=>(by rw[List.take_zero] at z;cases z),(by rw[List.take_zero];exact List.nodup_nil),(by rw[List.take_zero];exact KZ _)⟩
  show Data.set #[] 0 _=Data.set #[] 0 _
  congr 1
 ·obtain⟨h',g',d',tk',os'⟩:=s';obtain rfl:g'=s.gens:=mv.gens;obtain rfl:d'=s.drawn:=mv.drawn;obtain rfl:os'=s.os:=mv.os;show wpAny _ _ _ _ _ _;refine wpAny_pure ?_;show wpAny _ _ (ret Value.none) _ _ _;refine wpAny_pure (q h' tk' hS' fun b o hb e=>mv.heap b o (fun z=>?_) (KB _ (KB _ e)));rcases List.mem_cons.mp z with e | e
  ·exact absurd hb (by rw[e];exact Li _)
  ·rw[Lq,sz1] at e;exact absurd hb (by rw[e];exact Nat.not_lt.mpr (Nat.le_succ _))
theorem yh{l:Addr}{items:Array Value}{ns:List Nat}{Q:Value->Shared->Prop}(hh:A.handled=none)(hl:s.heap.IsList l items)(hi:zF items ns)(hsm:∀k∈ns,k < 12)(hlen:ns.length≤4)
  (q:∀(h':Heap) (tk:Nat),lE h' s.heap.objs.size (!aZ w) (metN [] ns)->(∀b o,b < s.heap.objs.size->s.heap.get? b=some o->h'.get? b=some o)->Q (.ref s.heap.objs.size) {s with heap:=h',toks:=tk}) :
  wpAny (model prog w) A (call (.type "set") [.ref l]) Q E s:=by
 obtain⟨c,tl,hmro⟩:=F.called_set.mro;have hmade:=F.called_set.made;have hsub:=F.called_set.sub;refine wpAny_call (codeAny_of_tree ?_);show wpAny _ _ (callAny (.type "set") _) _ _ _;refine wpAny_pure ⟨Code.quiet_builtin _ (by decide +kernel),codeAny_builtin F.entry_type_call ?_⟩
 rw[Around.under_plain (weight_type_call_type "set" [.ref l] []) rfl];have h1:=F.called_set.notType;have h2:=F.called_set.canCreate;have hct:=F.typeCall_set_1 (.ref l)
 repeat (any_goals (first | assumption | wp_step))
 refine codeAny_mono (BS (.ref l) (E:=E) (Q:=fun obj s₁=>obj=.ref s.heap.objs.size∧s₁={s with heap:=s.heap.push (bU w)}) ⟨rfl,rfl⟩) fun r s₁ hr=>?_
 cases r with
 | error e=>exact hr
 | ok fl =>
  cases fl with
  | ret obj =>
   obtain⟨rfl,rfl⟩:=hr;have hS:(s.heap.push (bU w)).get? s.heap.objs.size=some (bU w):=KD _ rfl;have hT:Shared.TypeIs {s with heap:=s.heap.push (bU w)} (.ref s.heap.objs.size) "set":=⟨_,hS,rfl⟩
   have hli:=F.called_set.init.lookup;have hbi:=F.called_set.init.bind (.ref s.heap.objs.size)
   repeat (any_goals (first | assumption | wp_step))
   refine codeAny_mono (D6 (R:=wants (fun r s₂=>r=.none∧∃h' tk,s₂={s with heap:=h',toks:=tk}∧lE h' s.heap.objs.size (!aZ w) (metN [] ns)∧(∀b o,b < s.heap.objs.size->s.heap.get? b=some o->h'.get? b=some o)) E) (by simpa using hh) hl hi hsm hlen fun h' tk a b=>⟨rfl,h',tk,rfl,a,b⟩) fun r₂ s₂ hr₂=>?_
   cases r₂ with
   | error e=>exact hr₂
   | ok fl₂ =>
    cases fl₂ with
    | ret r =>
     obtain⟨rfl,h',tk,rfl,a,b⟩:=hr₂
     repeat (any_goals (first | assumption | wp_step))
     exact q _ _ a b
    | _=>exact hr₂.elim
  | _=>exact hr.elim
end
theorem wt:Manifest.owners.lookup (String.ofList ['r','o','t','a','r','e','t','i','_','t','e','s'].reverse)=some Manifest.sig_set_iterator:=by kernel_rfl
theorem dJ:Slot "set_iterator" "__next__" "set_iterator.__next__" :=
 .of (owner:="set_iterator") (n:="__next__") (by rw[typeLookup_type,builtinLookup_eq_fast];kernel_rfl) (by decide +kernel) (by decide +kernel) (by decide +kernel) (by first | exact .inl (by decide +kernel) | exact .inr (by decide +kernel)) (by rw[isSubtype_type];kernel_rfl)
theorem l9:entryFor table "set_iterator.__next__"=some Builtin.«set_iterator.__next__»:=entryFor_of_tree (by kernel_rfl)
theorem mT(a:Value):argsOk "set_iterator.__next__" ⟨[a],[]⟩:=by
 unfold argsOk;rw[signature?_of (id:="set_iterator.__next__") (n:=['_','_','t','x','e','n','_','_']) (o:=['r','o','t','a','r','e','t','i','_','t','e','s']) (by kernel_rfl) wt];kernel_rfl
theorem mI:Slot "set_iterator" "__iter__" "set_iterator.__iter__" :=
 .of (owner:="set_iterator") (n:="__iter__") (by rw[typeLookup_type,builtinLookup_eq_fast];kernel_rfl) (by decide +kernel) (by decide +kernel) (by decide +kernel) (by first | exact .inl (by decide +kernel) | exact .inr (by decide +kernel)) (by rw[isSubtype_type];kernel_rfl)
theorem sJ:entryFor table "set_iterator.__iter__"=some Builtin.«dict_keyiterator.__iter__» :=
 entryFor_alias (id':="dict_keyiterator.__iter__") (by kernel_rfl) (by first | rfl | decide +kernel | (unfold String.splitOn;simp +decide [String.splitOnAux])) (by decide +kernel) (by kernel_rfl)
theorem vL(a:Value):argsOk "set_iterator.__iter__" ⟨[a],[]⟩:=by
 unfold argsOk;rw[signature?_of (id:="set_iterator.__iter__") (n:=['_','_','r','e','t','i','_','_']) (o:=['r','o','t','a','r','e','t','i','_','t','e','s']) (by kernel_rfl) wt];kernel_rfl
theorem rQ:entryFor table "set.__iter__"=some Builtin.«frozenset.__iter__» :=
 entryFor_alias (id':="frozenset.__iter__") (by kernel_rfl) (by first | rfl | decide +kernel | (unfold String.splitOn;simp +decide [String.splitOnAux])) (by decide +kernel) (by kernel_rfl)
theorem qM{α:Type}:∀(l:List α)(i:Nat)(h:i < l.length),(l[i]::l.eraseIdx i).Perm l
 | a::l,0,_=>.refl _
 | a::l,i+1,h=>by
  rw[List.eraseIdx_cons_succ,List.getElem_cons_succ];exact(List.Perm.swap ..).trans ((qM l i (by simpa using h)).cons a)
theorem Be{α:Type}(next:Nat->Nat)(xs:Array α):(pickOrder next xs).toList.Perm xs.toList:=by
 have key:∀(f k:Nat)(left:List α)(out:Array α),left.length=f->(pickOrder.go next f k left out).toList.Perm (out.toList++left):=by
  intro f
  induction f with
  | zero=>intro k left out h;rw[List.length_eq_zero_iff.mp h,Lp];exact .refl _
  | succ f ih =>
   intro k left out h;have hi:next k % left.length < left.length:=Nat.mod_lt _ (by omega)
   unfold pickOrder.go;rw[Kz hi];dsimp only;refine(ih (k+1) _ _ (by rw[List.length_eraseIdx_of_lt hi];omega)).trans ?_
   rw[Array.toList_push,Ld];exact List.Perm.append_left _ (qM left _ hi)
 have:=key xs.size 0 xs.toList #[] (by simp)
 unfold pickOrder;simpa using this
def jq(w:World)(a:Addr)(ep:Nat)(es:Array (Int×Value)):Array (Int×Value):=if aZ w=true then pickOrder (w.params.setOrder a ep) es else es
theorem kM(w:World)(a:Addr)(ep:Nat)(es:Array (Int×Value)):(jq w a ep es).toList.Perm es.toList:=by
 unfold jq
 by_cases h:aZ w=true
 ·rw[if_pos h];exact Be ..
 ·rw[if_neg h]
def cw(w:World)(t:SetTable)(i:Nat):Nat:=if aZ w=true then 0 else HK t i
abbrev tS(slot i:Nat)(a:Addr)(n ep:Nat):Obj:={cls:=.type "set_iterator",data:=.fields #[rawInt (slot:Int),rawInt (i:Int),.ref a,rawInt (n:Int),rawInt (ep:Int)]}
structure rA(w:World)(h:Heap)(a:Addr)(es:Array (Int×Value))(ep m:Nat):Prop where
 ob:∃o,h.get? a=some o∧o.ExactSet∧o.data=.set es ep (T (!aZ w) m)
 hm:m < 256
 hl:(dY m).length=es.size
 h4:es.size≤4
theorem rA.fits{w:World}{h:Heap}{a:Addr}{es:Array (Int×Value)}{ep m:Nat}(S:rA w h a es ep m):(T (!aZ w) m).fits es.size=true∧∀i,i≤es.size->SetTable.below (T (!aZ w) m).place (HK (T (!aZ w) m) i)=i:=by
 have gd:=rl (!aZ w) m S.hm (by rw[S.hl];exact S.h4)
 unfold A4 at gd;rw[L7,L7,S.hl,List.all_eq_true] at gd;exact⟨gd.1.1,fun i hi=>by simpa using gd.2 i (List.mem_range.mpr (by omega))⟩
section
variable{prog:Program}{w:World}{A:Around}{E:Value->Shared->Prop}{s:Shared}
theorem gg{Q:Bool->Shared->Prop}(h:Q (aZ w) s):wpAny (model prog w) A setsByText Q E s:=by
 unfold setsByText;exact wpAny_bind (wpAny_askSetting (wpAny_pure h))
theorem DC{a:Addr}{es:Array (Int×Value)}{ep m:Nat}{Q:Value->Shared->Prop}(S:rA w s.heap a es ep m)(q:Q (.ref s.heap.objs.size) {s with heap:=s.heap.push (tS 0 0 a es.size ep)}):wpAny (model prog w) A (pyIter (.ref a)) Q E s:=by
 obtain⟨o,ho,hex,hd⟩:=S.ob;have hf:=S.fits.1;have hT:s.TypeIs (.ref a) "set":=⟨o,ho,hex.1⟩;refine wpAny_pyIter_slot hT F.slot_set_iter (wpAny_call_entry F.slot_set_iter hT rQ ?_ (F.args_set_iter_1 _));unfold Builtin.«frozenset.__iter__»;refine wpAny_bind (m:=Builtin.Frozenset.slot0 "__iter__" _) (wpAny_pure ?_);unfold Builtin.Frozenset.sizeOf;refine wpAny_bind (wpAny_bind (wpAny_setEntries_of ho hd hf (wpAny_pure ?_)));unfold setDrawn;refine wpAny_bind (wpAny_bind (wpAny_setState_of ho hd hf (wpAny_bind (gg (wpAny_pure ?_)))));dsimp only;refine wpAny_ite_split (fun hab=>absurd hab (show ¬((!aZ w&&(!true&&decide (es.size > 1)))=true) from by simp)) (fun _=>?_)
 refine wpAny_bind (wpAny_pure (wpAny_bind (wpAny_setEpoch_of ho hd hf ?_)));unfold newFields;refine wpAny_bind (wpAny_newObj_type (wpAny_pure ⟨_,rfl,"set_iterator",_,⟨_,KD _ rfl,rfl⟩,dJ.lookup,q⟩))
theorem D7{a it:Addr}{es:Array (Int×Value)}{ep m i:Nat}{Q:Option Value->Shared->Prop}(S:rA w s.heap a es ep m)(hit:s.heap.get? it=some (tS (cw w (T (!aZ w) m) i) i a es.size ep))(hi:i < es.size)
  (q:∀e h',(jq w a ep es)[i]?=some e->h'.get? it=some (tS (cw w (T (!aZ w) m) (i+1)) (i+1) a es.size ep)->Heap.SameBut it s.heap h'->Q (some e.2) {s with heap:=h'}):wpAny (model prog w) A (pyNext (.ref it)) Q E s:=by
 obtain⟨o,ho,hex,hd⟩:=S.ob;obtain⟨hf,hbel⟩:=S.fits;have hT:s.TypeIs (.ref it) "set_iterator":=⟨_,hit,rfl⟩;unfold pyNext;refine wpAny_bind (wpAny_attempt (wpAny_callSpecial?_slot (name:=Str.ofString "__next__") hT dJ (wpAny_call_entry dJ hT l9 ?_ (mT _))));unfold Builtin.«set_iterator.__next__»;refine wpAny_bind (m:=slotArgs "__next__" 0 _) (wpAny_pure ?_);refine wpAny_bind (wpAny_fieldsOf hit rfl ?_);show wpAny _ _ (setEntries a >>= _) _ _ s;refine wpAny_bind (wpAny_setEntries_of ho hd hf ?_);refine wpAny_ite_split (fun hab=>absurd hab (by simp)) (fun _=>?_)
 have hslot:((cw w (T (!aZ w) m) i:Nat):Int).toNat=cw w (T (!aZ w) m) i:=Lk _;have hnat:((i:Nat):Int).toNat=i:=Lk _;have hepn:((ep:Nat):Int).toNat=ep:=Lk _
 have hdone:∀(e:Int×Value)(nx:Nat),(jq w a ep es)[i]?=some e->nx=cw w (T (!aZ w) m) (i+1)->wpAny (model prog w) A.in1 (do setField (.ref it) 0 (rawInt (nx:Int));setField (.ref it) 1 (rawInt ((i:Int)+1));ret e.2)
   (fun fin s'=>∃v,fin=.done (.ret v)∧wpAny (model prog w) A (pure (some v)) Q E s') (fun e s'=>False) s:=fun e nx he hnx=>by
  subst hnx;refine wpAny_bind (wpAny_setField_rec hit (by simp) fun h1 g1 s1=>?_)
  refine wpAny_bind (wpAny_setField_rec (s:={s with heap:=h1}) g1 (by simp) fun h2 g2 s2=>?_)
  exact wpAny_pure ⟨_,rfl,wpAny_pure (q e h2 he (by show h2.get? it=some {cls:=_,data:=.fields #[_,rawInt (((i+1:Nat)):Int),_,_,_]};rw[Int.natCast_add];simpa using g2) (s1.trans s2))⟩
 show wpAny _ _ (setNext a ((cw w (T (!aZ w) m) i:Nat):Int).toNat ((i:Nat):Int).toNat ((ep:Nat):Int).toNat >>= _) _ _ s;rw[hslot,hnat,hepn];unfold setNext;refine wpAny_bind (wpAny_bind (wpAny_setState_of ho hd hf (wpAny_bind (gg ?_))));have ho_len:(jq w a ep es).size=es.size:=by rw[←Lu,(kM w a ep es).length_eq,Lu]
 obtain⟨e0,hoe⟩:∃e0,(jq w a ep es)[i]?=some e0:=⟨_,Array.getElem?_eq_getElem (by omega)⟩
 by_cases hb:aZ w=true
 ·refine wpAny_ite_split (fun _=>?_) (fun hab=>absurd hb hab);refine wpAny_ite_split (fun hab=>absurd hab (by simp)) (fun _=>?_)
  unfold setWalk;refine wpAny_bind (wpAny_bind (wpAny_setState_of ho hd hf (wpAny_bind (gg ?_))));refine wpAny_ite_split (fun _=>?_) (fun hab=>absurd hb hab);refine wpAny_bind (wpAny_askSetting (wpAny_pure (wpAny_pure ?_)));have e1:jq w a ep es=pickOrder (w.params.setOrder a ep) es:=by unfold jq;rw[if_pos hb]
  have hoe2:=hoe;rw[e1] at hoe2;show wpAny _ _ (match ((pickOrder (w.params.setOrder a ep) es)[i]?).map fun e=>(e.2,cw w (T (!aZ w) m) i) with | some (x,next)=>_ | none=>_) _ _ s
  rw[hoe2];exact wpAny_mono (hdone _ _ hoe (by unfold cw;rw[if_pos hb,if_pos hb])) (fun fin s' x=>x) (fun e s' x=>x.elim)
 ·refine wpAny_ite_split (fun hab=>absurd hab hb) (fun _=>?_);refine wpAny_ite_split (fun hab=>absurd hab (show ¬((!true&&decide (es.size > 1))=true) from by simp)) (fun _=>?_)
  have hbf:aZ w=false:=by simpa using hb
  refine wpAny_bind (wpAny_ite_split (fun hab=>absurd hab (show ¬((!(!aZ w)&&!es.isEmpty)=true) from by rw[hbf];simp)) (fun _=>wpAny_pure ?_))
  have es1:cw w (T (!aZ w) m) i=HK (T (!aZ w) m) i:=by unfold cw;rw[if_neg hb]
  have eo:jq w a ep es=es:=by unfold jq;rw[if_neg hb]
  have hoe2:=hoe;rw[eo] at hoe2;have psz:(T (!aZ w) m).place.size=es.size:=by rw[←S.hl];rfl
  obtain⟨j,hj⟩:∃j,(T (!aZ w) m).place[i]?=some j:=⟨_,Array.getElem?_eq_getElem (by omega)⟩
  dsimp only;rw[es1,hbel i (by omega),hoe2,hj]
  refine wpAny_pure ?_;exact wpAny_mono (hdone e0 (j+1) hoe (by unfold cw;rw[if_neg hb];show j+1=(T (!aZ w) m).place.getD i 0+1;rw[Array.getD_eq_getD_getElem?,hj];rfl)) (fun fin s' x=>x) (fun e s' x=>x.elim)
theorem CO{a it:Addr}{es:Array (Int×Value)}{ep m:Nat}{Q:Option Value->Shared->Prop}(hh:A.handled=none)(S:rA w s.heap a es ep m)(hit:s.heap.get? it=some (tS (cw w (T (!aZ w) m) es.size) es.size a es.size ep))
  (q:∀h',(∀b o,b≠it->s.heap.get? b=some o->h'.get? b=some o)->Q none {s with heap:=h'}):wpAny (model prog w) A (pyNext (.ref it)) Q E s:=by
 obtain⟨o,ho,hex,hd⟩:=S.ob;obtain⟨hf,hbel⟩:=S.fits;have hT:s.TypeIs (.ref it) "set_iterator":=⟨_,hit,rfl⟩;unfold pyNext;refine wpAny_bind (wpAny_attempt (wpAny_callSpecial?_slot (name:=Str.ofString "__next__") hT dJ (wpAny_call_entry dJ hT l9 ?_ (mT _))));unfold Builtin.«set_iterator.__next__»;refine wpAny_bind (m:=slotArgs "__next__" 0 _) (wpAny_pure ?_);refine wpAny_bind (wpAny_fieldsOf hit rfl ?_);show wpAny _ _ (setEntries a >>= _) _ _ s;refine wpAny_bind (wpAny_setEntries_of ho hd hf ?_);refine wpAny_ite_split (fun hab=>absurd hab (by simp)) (fun _=>?_)
 have hslot:((cw w (T (!aZ w) m) es.size:Nat):Int).toNat=cw w (T (!aZ w) m) es.size:=Lk _;have hnat:((es.size:Nat):Int).toNat=es.size:=Lk _;have hepn:((ep:Nat):Int).toNat=ep:=Lk _;show wpAny _ _ (setNext a ((cw w (T (!aZ w) m) es.size:Nat):Int).toNat ((es.size:Nat):Int).toNat ((ep:Nat):Int).toNat >>= _) _ _ s;rw[hslot,hnat,hepn];have ho_len:(jq w a ep es).size=es.size:=by rw[←Lu,(kM w a ep es).length_eq,Lu]
 have hoe:(jq w a ep es)[es.size]?=none:=Array.getElem?_eq_none (by omega)
 have fin:wpAny (model prog w) A.in1 (setNext a (cw w (T (!aZ w) m) es.size) es.size ep) (fun r s'=>r=none∧s'=s) (fun _ _=>False) s:=by
  unfold setNext;refine wpAny_bind (wpAny_setState_of ho hd hf (wpAny_bind (gg ?_)))
  by_cases hb:aZ w=true
  ·refine wpAny_ite_split (fun _=>?_) (fun hab=>absurd hb hab);refine wpAny_ite_split (fun hab=>absurd hab (by simp)) (fun _=>?_)
   unfold setWalk;refine wpAny_bind (wpAny_bind (wpAny_setState_of ho hd hf (wpAny_bind (gg ?_))));refine wpAny_ite_split (fun _=>?_) (fun hab=>absurd hb hab);refine wpAny_bind (wpAny_askSetting (wpAny_pure (wpAny_pure ?_)));have e1:jq w a ep es=pickOrder (w.params.setOrder a ep) es:=by unfold jq;rw[if_pos hb]
   rw[e1] at hoe;refine⟨?_,rfl⟩;show((pickOrder (w.params.setOrder a ep) es)[es.size]?).map _=none;rw[hoe];rfl
  ·refine wpAny_ite_split (fun hab=>absurd hab hb) (fun _=>?_);refine wpAny_ite_split (fun hab=>absurd hab (show ¬((!true&&decide (es.size > 1))=true) from by simp)) (fun _=>?_)
   have hbf:aZ w=false:=by simpa using hb
   refine wpAny_bind (wpAny_ite_split (fun hab=>absurd hab (show ¬((!(!aZ w)&&!es.isEmpty)=true) from by rw[hbf];simp)) (fun _=>wpAny_pure ?_))
   have es1:cw w (T (!aZ w) m) es.size=HK (T (!aZ w) m) es.size:=by unfold cw;rw[if_neg hb]
   dsimp only;rw[es1,hbel es.size (KG _),Array.getElem?_eq_none (KG _)];exact wpAny_pure ⟨rfl,rfl⟩
 refine wpAny_bind (wpAny_mono fin (fun r s' hr=>?_) (fun _ _ z=>z.elim));obtain⟨rfl,rfl⟩:=hr;show wpAny _ _ (setField (.ref it) 2 .none >>= _) _ _ s';refine wpAny_bind (wpAny_setField hit rfl (by simp) ?_)
 show wpAny _ _ (newExc (.type "StopIteration") [] >>= _) _ _ _;refine wpAny_bind ?_;simp only[newExc,newTuple];refine wpAny_bind (wpAny_newObj_type ?_ (by size_fits))
 refine wpAny_bind (m:=firstArgMember _ _) (wpAny_of_eq (a:=Value.none) (by first | rfl | (simp only[firstArgMember];rfl)) ?_)
 refine wpAny_newObj_type ?_ (by size_fits)
 simp only[raiseNew];refine wpAny_bind (wpAny_handled ?_);rw[show A.in1.handled=none from hh]
 refine wpAny_bind (wpAny_pure (wpAny_throw ?_));refine wpAny_bind (wpAny_isInstance (T:="StopIteration") (b:=true) ⟨_,KD _ rfl,rfl⟩ isSubtype_stop ?_);exact wpAny_pure (q _ fun b o hb e=>(((Heap.SameBut.update ..).extBut.push _).push _) b o hb e)
theorem rA.keep{h h':Heap}{a:Addr}{es:Array (Int×Value)}{ep m:Nat}(S:rA w h a es ep m)(k:∀o,h.get? a=some o->h'.get? a=some o):rA w h' a es ep m:=by
 obtain⟨⟨o,ho,r⟩,b,c,d⟩:=S;exact⟨⟨o,k o ho,r⟩,b,c,d⟩
theorem Bo(hh:A.handled=none)(I a:Addr)(hne:a≠I)(es:Array (Int×Value))(ep m:Nat) :
  Walks prog w A I [I,a] [I] es.size (fun i v=>∃e,(jq w a ep es)[i]?=some e∧v=e.2) (fun i h=>h.get? I=some (tS (cw w (T (!aZ w) m) i) i a es.size ep)∧rA w h a es ep m) where
 sub:=fun b hb=>by simp at hb;simp[hb]
 frame:=fun _ _ _ st hk=>⟨hk I (by simp) _ st.1,st.2.keep fun o e=>hk a (by simp) o e⟩
 item:=fun i s Q E hi st hQ=>by
  refine D7 st.2 st.1 hi fun e h' he hit sb=>?_;exact hQ _ h' s.toks ⟨e,he,rfl⟩ ⟨hit,st.2.keep fun o x=>sb.extBut a o hne x⟩ fun b o hb x=>sb.extBut b o (fun z=>hb (by simp[z])) x
 done:=fun s Q E st hQ=>CO hh st.2 st.1 fun h' k=>hQ h' s.toks fun b o hb x=>k b o (fun z=>hb (by simp[z])) x
 self:=fun i s Q E st hQ=>by
  have hT:s.TypeIs (.ref I) "set_iterator":=⟨_,st.1,rfl⟩;refine wpAny_pyIter_slot hT mI (wpAny_call_entry mI hT sJ ?_ (vL _));show wpAny _ _ (ret (.ref I)) _ _ s;exact wpAny_pure ⟨_,rfl,"set_iterator",_,hT,dJ.lookup,hQ⟩
theorem E8{r:Addr}{Q:Bool->Shared->Prop}(hT:s.TypeIs (.ref r) "set")(h:Q false s):wpAny (model prog w) A (Builtin.List.listLengthHint (.ref r)) Q E s:=by
 unfold Builtin.List.listLengthHint;refine wpAny_bind (wpAny_specialOf hT PySem.F.slot_set_len.lookup ?_);generalize hid:("set.__len__":String)=id0
 wp_delta
 rw[show splitId id0=some ("set","__len__") from by subst hid;decide +kernel]
 subst hid;refine wpAny_bind (wpAny_isInstance (T:="set") (b:=true) hT (by rw[isSubtype_type];kernel_rfl) ?_)
 refine wpAny_ite_split (fun hab=>absurd hab (by decide)) (fun _=>?_)
 refine wpAny_ite_split (fun _=>?_) (fun hab=>absurd (by decide +kernel) hab)
 exact wpAny_bind (wpAny_typeOf hT (wpAny_pure h))
theorem FJ(a:Addr)(es:Array (Int×Value))(ep m:Nat):PySem.W.KdlSrc prog w "set" a a es.size (fun i v=>∃e,(jq w a ep es)[i]?=some e∧v=e.2) (fun h=>rA w h a es ep m) where
 type:=fun s S=>by obtain⟨o,ho,hex,_⟩:=S.ob;exact⟨o,ho,hex.1⟩
 there:=fun h S=>by obtain⟨o,ho,_⟩:=S.ob;exact⟨KC ho,KC ho⟩
 keep:=fun h h' S k=>S.keep fun o e=>k a (.inl rfl) o e
 notList:=by decide
 notTuple:=by decide
 hint:=fun A E s Q S hq=>E8 (by obtain⟨o,ho,hex,_⟩:=S.ob;exact⟨o,ho,hex.1⟩) hq
 iter:=fun A s hh S=>by
  obtain⟨o,ho,_⟩:=S.ob;refine⟨tS 0 0 a es.size ep,_,fun E Q hq=>DC S hq,Bo hh _ a (Lj (KC ho)) es ep m,?_,S.keep fun o e=>KB _ e⟩;have e0:cw w (T (!aZ w) m) 0=0:=by unfold cw HK;split<;>rfl
  rw[e0];exact KD _ rfl
end
end XS
namespace XS
open PySem PySem.Spec PyProof.Rows L2
def SO(w:World)(a:Addr)(l:List Nat):HO:=.ext fun h=>lE h a (!aZ w) l
theorem IB{P:Program}{w:World}{H:Hp}{h:Heap}{a:Addr}{l:List Nat}(S:lE h a (!aZ w) l):bB P w H h a (SO w a l):=by
 obtain⟨o,es,ep,m,ks,ho,_⟩:=S.ex;exact⟨S,⟨o,ho⟩,fun h1 h2 p k=>p.keep k⟩
section
open PySem.W
variable{prog:Program}{w:World}{A:Around}{E:Value->Shared->Prop}{s:Shared}{T:String}{r d:Addr}{n:Nat}{P:Nat->Value->Prop}{OK:Heap->Prop}
theorem Hz{R:List Value->Shared->Prop}(K:KdlSrc prog w T r d n P OK)(hh:A.handled=none)(hok:OK s.heap)(hn:n≤sizeLine)
  (q:∀(h':Heap) (tk:Nat) (acc:Array Value),(∀b o,s.heap.get? b=some o->h'.get? b=some o)->s.heap.objs.size < h'.objs.size->ItemsOf P acc n->R acc.toList {s with heap:=h',toks:=tk}):wpAny (model prog w) A (collect (.ref r)) R E s:=by
 have lt:=K.there _ hok;have new:(s.heap.push {cls:=.type "list",data:=.seq ([]:List Value).toArray}).get? s.heap.objs.size=some {cls:=.type "list",data:=.seq #[]}:=KD _ rfl;unfold collect;refine wpAny_bind (wpAny_runValue (codeAny_builtin entry_proto_collect' ?_));rw[Around.under_plainId PySem.F.plain_proto_collect _];show wpAny _ A.in1 (newList [] >>= fun l=>again (.builtin "list.__iadd__" ⟨[l,.ref r],[]⟩)) _ _ s;refine wpAny_bind (wpAny_newObj_type (wpAny_pure ⟨plainId_quiet PySem.F.plain_list_iadd _,codeAny_builtin entry_list_iadd' ?_⟩));rw[Around.under_plainId PySem.F.plain_list_iadd _];show wpAny _ A.in1 (Builtin.List.listExtendWith (.ref s.heap.objs.size) (.ref r) (.ref s.heap.objs.size)) _ _ _
 have go:=kdl_extend (A:=A) (s:={s with heap:=s.heap.push {cls:=.type "list",data:=.seq ([]:List Value).toArray}})
  (R:=fun(f:Result)(s':Shared)=>∃(h':Heap)(tk:Nat)(acc:Array Value)(c:Nat),f=.ok (.ret (.ref s.heap.objs.size))∧s'={s with heap:=h',toks:=tk} ∧
   (∀b o,s.heap.get? b=some o->h'.get? b=some o)∧h'.get? s.heap.objs.size=some {cls:=.type "list",dict:=none,data:=.seq acc c,slots:=#[]}∧ItemsOf P acc n)
  K hh (K.keep _ _ hok fun b _ o e=>KB _ e) s.heap.objs.size (LN lt.1) (LN lt.2) (.ref s.heap.objs.size) 0 new
  (fun h' tk acc c hk hS ha=>⟨h',tk,acc,c,rfl,rfl,fun b o e=>hk b o (Lj (KC e)) (KB _ e),hS,ha⟩) hn
 refine wpAny_mono go (fun f s' x=>?_) fun e s' x=>?_
 ·cases f with
  | done f =>
   obtain⟨h',tk,acc,c,e,rfl,hk,hS,ha⟩:=x;cases e;show wpAny _ A (load s.heap.objs.size >>= _) _ _ _;exact wpAny_bind (wpAny_load hS (wpAny_pure (q h' tk acc hk (KC hS) ha)))
  | again c₁ =>
   refine⟨x.1,codeAny_mono x.2 fun f s₂ y=>?_⟩;obtain⟨h',tk,acc,c,rfl,rfl,hk,hS,ha⟩:=y;show wpAny _ A (load s.heap.objs.size >>= _) _ _ _;exact wpAny_bind (wpAny_load hS (wpAny_pure (q h' tk acc hk (KC hS) ha)))
 ·obtain⟨_,_,_,_,e',_⟩:=x;cases e'
end
abbrev IU(n:Nat):V:=V.int (n:Int)
inductive HU(K:Frag)(w:World)(vs:List V)(H:Hp)(Q:VK):Prop
 | mk (a:Addr) (ns:List Nat):vs=[V.ref a]->aH K H a (ns.map IU)->(∀k∈ns,k < 12)->ns.length≤4->(∀p,H p=none->Q (.ref p) (upd H p (SO w p (metN [] ns))))->HU K w vs H Q
inductive x8(w:World)(vs:List V)(H:Hp)(Q:VK):Prop
 | mk (a:Addr) (l:List Nat):vs=[V.ref a]->H a=some (SO w a l)->(∀(ns':List Int)(p:Addr),ns'.Perm (l.map fun n:Nat=>(n:Int))->ns'.Pairwise (·≤·)->H p=none->Q (.ref p) (upd H p (.lst (ns'.map V.int))))->x8 w vs H Q
section
variable{X:Cx}
theorem cr_set(hc:X.calm=true):eN X (.type "set") (HU X.K X.w):=by
 intro pins s σ H vs us Q I r h;obtain⟨a,ns,rfl,hs,hsm,hlen,q⟩:=h;obtain⟨its,rv,hl,_⟩:=I.list hs;rw[b8.ref1 r]
 have hi:zF its.toArray ns:=by
  refine⟨by rw[KW,←rv.length,Kv],fun i v hv=>?_⟩
  have hv:its[i]?=some v:=by simpa using hv
  have hil:i < ns.length:=by
   have h1:=(KQ.mp hv).1;have h2:=rv.length;rw[Kv] at h2;omega
  obtain⟨u,hu,ru⟩:=rv.get (i:=i) (x:=IU ns[i]) (by rw[Kw,Kz hil];rfl)
  have e:u=v:=LS (hu.symm.trans hv);subst e;obtain⟨t,e⟩:=ru;exact⟨t,by rw[e,KP,Kz hil];rfl⟩
 refine yh (I.ok.hd hc) hl.isList hi hsm hlen fun h' tk S k=>?_;have kp:∀b u,s.heap.get? b=some u->h'.get? b=some u:=fun b u e=>k b u (KC e) e;exact⟨.ref _,_,I.laid (a:=s.heap.objs.size) (o:=SO X.w s.heap.objs.size (metN [] ns)) (t':=tk) kp (KG _) (IB S),rfl,q _ (I.hok.fresh (KG _))⟩
theorem uk:∀{es:List (Int×Value)}{ks:List Nat},j9 es ks->IntsAre (es.map (·.2)) (ks.map fun n:Nat=>(n:Int))
 | _,_,.nil=>.nil
 | _,_,.cons (a:=e) (b:=k) h t=>by
  obtain⟨_,tk,e2⟩:=h;rw[KR,KR,e2];exact .cons _ tk (uk t)
theorem cr_sortSet(hc:X.calm=true):eN X (.builtin "sorted") (x8 X.w):=by
 intro pins s σ H vs us Q I r h;obtain⟨a,l,rfl,ha,q⟩:=h;rw[b8.ref1 r];have S:lE s.heap a (!aZ X.w) l:=(show bB X.prog X.w H s.heap a (SO X.w a l) from I.hok a _ ha).1
 obtain⟨o,es,ep,m,ks,ho,hex,hd,hm,hml,he,hp⟩:=S.ex;have esz:es.size=l.length:=by rw[←Lu,he.len,hp.length_eq]
 have W:rA X.w s.heap a es ep m:=⟨⟨o,ho,hex,hd⟩,hm,by rw[hml,esz],by rw[esz];exact S.le⟩
 have n4:es.size≤4:=W.h4;refine PySem.Calls.call_function_entry kind_sorted plain_sorted entry_sorted (args_sorted1 _) ?_;unfold Builtin.«sorted»;refine wpAny_bind (m:=checkCount "sorted" 1 1 _) (wpAny_pure ?_);refine wpAny_bind (Hz (A:=X.A.in1) (FJ (prog:=X.prog) (w:=X.w) a es ep m) (I.ok.hd hc) W (by rw[sizeLine_eq];omega) fun h' tk acc hk hbig hacc=>?_)
 have olen:(jq X.w a ep es).size=es.size:=by rw[←Lu,(kM X.w a ep es).length_eq,Lu]
 have eacc:acc.toList=(jq X.w a ep es).toList.map (·.2):=by
  apply List.ext_getElem?;intro j;rw[Kw,Array.getElem?_toList,Array.getElem?_toList]
  by_cases hj:j < es.size
  ·have e1:acc[j]?=some (acc[j]'(by rw[hacc.1];exact hj)):=Array.getElem?_eq_getElem _
   obtain⟨e,he1,he2⟩:=hacc.2 j _ e1;rw[e1,he1,he2];rfl
  ·rw[Array.getElem?_eq_none (by rw[hacc.1];omega),Array.getElem?_eq_none (by rw[olen];omega)];rfl
 obtain⟨ks',hE,hP⟩:=j9.perm (kM X.w a ep es) he;have hints:IntsAre acc.toList (ks'.map fun n:Nat=>(n:Int)):=by rw[eacc];exact uk hE
 have alen:acc.toList.length=es.size:=by rw[Lu];exact hacc.1
 refine wpAny_bind (wpAny_newList ?_ (by rw[alen,sizeLine_eq];omega))
 have hob:(h'.push {cls:=.type "list",data:=.seq acc.toList.toArray}).get? h'.objs.size=some {cls:=.type "list",data:=.seq acc.toList.toArray}:=KD _ rfl;refine wpAny_bind (wpAny_holding ?_)
 refine wpAny_call_entry PyProof.Rows.slot_list_sort ⟨_,hob,rfl⟩ PyProof.Rows.entry_list_sort
  (PyProof.Rows.list_sort_tree hob hints (by rw[alen];omega) fun out ns' h1 h2 h3=>⟨.none,rfl,?_⟩) (PyProof.Rows.args_list_sort _)
 obtain⟨ep2,he'⟩:=PyProof.Rows.sortedHeap_at (vs:=acc.toList) (out:=out) hob;have hlen:(ns'.map V.int).length≤sizeLine:=by rw[Kv,h2.length_eq,Kv,hP.length_eq,hp.length_eq,←esz,sizeLine_eq];omega
 have old:∀b u,s.heap.get? b=some u->(PyProof.Rows.sortedHeap (h'.push {cls:=.type "list",data:=.seq acc.toList.toArray}) h'.objs.size acc.toList out).get? b=some u:=fun b u e=>by
  have e1:=hk b u e;have lt:=KC e1;rw[PyProof.Rows.sortedHeap_old (Lj lt) (by rw[LP];exact Nat.lt_succ_of_lt lt)]
  exact KB _ e1
 have big:s.heap.objs.size≤h'.objs.size:=LR hbig;refine wpAny_pure ⟨_,rfl,.ref _,upd H h'.objs.size (.lst (ns'.map V.int)),I.laid (t':=tk) old big ⟨hlen,out.toList,ep2,iZ h1,he'⟩,rfl,q ns' _ (h2.trans ((hP.trans hp).map _)) h3 (I.hok.fresh big)⟩
end
end XS
namespace XN
open PySem
abbrev PK:=Int×List Int
section
variable(prog:Program)(w:World)
def jL(h:Heap)(k:PK)(a:Addr):Prop:=∃(o:Obj)(n:Nat)(t:Tok)(b:Addr),h.get? a=some o∧o.cls=.type "tuple"∧o.data=.seq #[.int k.1 t,.ref b] n∧IsTupleKey (intKind prog w) h k.2 b
def zo(k:PK):Int:=reduceHash (Builtin.Tuple.tupleHashOf [hashInt k.1,tupleKeyHash (intKind prog w) k.2])
end
section
variable{prog:Program}{w:World}{A:Around}{E:Value->Shared->Prop}{s:Shared}
theorem jL.typeIs{k:PK}{a:Addr}(x:jL prog w s.heap k a):s.TypeIs (.ref a) "tuple":=let ⟨o,_,_,_,ho,hc,_⟩:=x;⟨o,ho,hc⟩
theorem jL.inj{h:Heap}{a:Addr}{x y:PK}(hx:jL prog w h x a)(hy:jL prog w h y a):x=y:=by
 obtain⟨o,n,t,b,ho,_,hd,hb⟩:=hx;obtain⟨o',n',t',b',ho',_,hd',hb'⟩:=hy;obtain rfl:o=o':=LS (ho.symm.trans ho');rw[hd] at hd';injection hd' with h1 h2
 have h3:=congrArg (fun z:Array Value=>z.toList) h1;simp at h3;obtain⟨⟨e1,_⟩,e2⟩:=h3;subst e2;exact Prod.ext e1 (hb.inj hb')
theorem jL.keeps{h h':Heap}{k:PK}{a d:Addr}{o:Obj}{es ep}(x:jL prog w h k a)(ho:h.get? d=some o)(hd:o.data=.dict es ep)(hs:Heap.SameBut d h h'):jL prog w h' k a:=by
 obtain⟨o',n,t,b,ho',hc,hd',hb⟩:=x
 have hne:a≠d:=by
  rintro rfl;obtain rfl:o'=o:=LS (ho'.symm.trans ho);rw[hd] at hd';exact nomatch hd'
 exact⟨o',n,t,b,(hs.2 a hne).trans ho',hc,hd',hb.keeps ho hd hs⟩
theorem EY{k:PK}{a:Addr}{Q:Int->Shared->Prop}(hu:A.units+1 < cLine)(hk:jL prog w s.heap k a)(q:Q (zo prog w k) {s with toks:=s.toks+(k.2.length+3)}):wpAny (model prog w) A (pyHash (.ref a)) Q E s:=by
 have hT:=hk.typeIs;obtain⟨o,n,t,b,ho,_,hd,hb⟩:=hk;unfold pyHash
 first | unfold pyHashByItsType | skip
 first | refine wpAny_bind (wpAny_cRoomFor_or (.inr (Nat.lt_of_succ_lt hu)) ?_) | skip
 refine wpAny_bind (wpAny_specialOf hT F.slot_tuple_hash.lookup ?_);show wpAny _ _ (if(some (Value.builtin "tuple.__hash__")==some Value.none)=true then _ else _) Q E s;rw[if_neg (by rw[beq_builtin_none];exact KM)]
 refine wpAny_bind (wpAny_specialOf hT F.slot_tuple_hash.lookup ?_);show wpAny _ _ (callSpecialIfBoundUnlessNone? (.ref a) "__hash__" _ >>= _) Q E s;refine wpAny_bind (wpAny_callSpecialIfBoundUnlessNone?_slot hT F.slot_tuple_hash (wpAny_call_entry F.slot_tuple_hash hT F.entry_tuple_hash ?_ (F.args_tuple_hash_1 _)));show wpAny _ _ (Builtin.Tuple.tupleItemsOf (.ref a) >>= _) _ _ s;refine wpAny_bind (wpAny_tupleItemsOf ho hd ?_);refine wpAny_bind ?_;rw[←Array.forIn_toList];simp only[List.forIn_cons,List.forIn_nil];refine wpAny_bind (wpAny_bind ((intKind prog w).pyHash (k:=k.1) (intKind_is ..) ?_));refine wpAny_pure (wpAny_bind (wpAny_bind (wpAny_pyHash_tuple (knd:=intKind prog w) hu hb (wpAny_pure (wpAny_pure ?_)))));have e:(intKind prog w).hash k.1=hashInt k.1:=rfl;show wpAny _ _ (retInt (Builtin.Tuple.tupleHashOf [(intKind prog w).hash k.1,tupleKeyHash (intKind prog w) k.2])) _ _ _;refine wpAny_ret_mkInt ?_;rw[e];have ht:∀x:Nat,x+1+(k.2.length+1)+1=x+(k.2.length+3):=fun x=>by omega
 unfold zo reduceHash at q;generalize Builtin.Tuple.tupleHashOf [hashInt k.1,tupleKeyHash (intKind prog w) k.2]=hv at q ⊢;show wpAny _ _ (if(decide (-(2:Int) ^ 63≤hv)&&decide (hv < 2 ^ 63))=true then _ else _) Q E _
 by_cases hr:(decide (-(2:Int) ^ 63≤hv)&&decide (hv < 2 ^ 63))=true
 ·rw[if_pos hr] at q ⊢;exact wpAny_pure (by simpa only[ht] using q)
 ·rw[if_neg hr] at q ⊢;exact wpAny_bind (wpAny_rule (wpAny_pure (by simpa only[ht] using q)))
theorem yp{x y:PK}{a b:Addr}{R:Fin->Shared->Prop}(hu:A.units < cLine)(hx:jL prog w s.heap x a)(hy:jL prog w s.heap y b)(q:R (.done (.ret (.bool (decide (x=y))))) s) :
  wpAny (model prog w) A (Builtin.«tuple.__eq__» ⟨[.ref a,.ref b],[]⟩) R E s:=by
 have hTb:=hy.typeIs;obtain⟨oa,na,ta,ia,hoa,_,hda,hia⟩:=hx;obtain⟨ob,nb,tb,ib,hob,_,hdb,hib⟩:=hy;show wpAny _ _ (isInstance (.ref b) (.type "tuple") >>= _) _ _ s;refine wpAny_bind (wpAny_isInstance hTb isSubtype_tuple_tuple ?_);simp only[Bool.not_true,Bool.false_eq_true,if_false];refine wpAny_bind (wpAny_tupleItemsOf hoa hda (wpAny_bind (wpAny_tupleItemsOf hob hdb ?_)));refine wpAny_bind ?_;simp only[List.zip_cons_cons,List.zip_nil_left,List.forIn_cons,List.forIn_nil];refine wpAny_bind (wpAny_bind ((intKind prog w).eqBool (a:=x.1) (b:=y.1) (intKind_is ..) (intKind_is ..) ?_))
 by_cases h1:x.1=y.1
 ·refine wpAny_ite_split (fun hab=>absurd hab (by simp[h1])) (fun _=>wpAny_pure ?_)
  refine wpAny_bind (wpAny_bind (wpAny_eqBool_tuple (knd:=intKind prog w) hu hia hib ?_))
  by_cases h2:x.2=y.2
  ·refine wpAny_ite_split (fun hab=>absurd hab (by simp[h2])) (fun _=>wpAny_pure (wpAny_pure ?_))
   have e:decide (x=y)=true:=Ll (Prod.ext h1 h2);rw[e] at q;exact wpAny_pure q
  ·refine wpAny_ite_split (fun _=>wpAny_bind (wpAny_pure (wpAny_pure (wpAny_pure (wpAny_pure ?_))))) (fun hab=>absurd (by simp[h2]) hab)
   have e:decide (x=y)=false:=Ln fun z=>h2 (by rw[z])
   rw[e] at q;exact q
 ·refine wpAny_ite_split (fun _=>wpAny_bind (wpAny_pure (wpAny_pure (wpAny_pure (wpAny_pure ?_))))) (fun hab=>absurd (by simp[h1]) hab)
  have e:decide (x=y)=false:=Ln fun z=>h1 (by rw[z])
  rw[e] at q;exact q
theorem J9{x y:PK}{a b:Addr}{Q:Bool->Shared->Prop}(hu:A.units+1 < cLine)(hx:jL prog w s.heap x a)(hy:jL prog w s.heap y b)(q:Q (decide (x=y)) s):wpAny (model prog w) A (eqBool (.ref a) (.ref b)) Q E s:=by
 unfold eqBool
 try with_reducible refine wpAny_holding ?_
 show wpAny _ _ (if(Value.ref a==Value.ref b)=true then _ else _) Q E s
 by_cases hab:(Value.ref a==Value.ref b)=true
 ·rw[if_pos hab];have e:a=b:=by have:=eq_of_beq hab;injection this
  subst e;obtain rfl:=hx.inj hy;exact wpAny_bind (wpAny_rule (wpAny_pure (by simpa using q)))
 ·rw[if_neg hab]
  exact wpAny_bind (wpAny_richCompare_same_room (op:=.Eq) hx.typeIs hy.typeIs F.slot_tuple_eq
   (wpAny_call_entry F.slot_tuple_eq hx.typeIs F.entry_tuple_eq (yp (A:=A.in1) hu hx hy ⟨_,rfl,(fun e=>nomatch e),wpAny_truthy_bool q⟩) (F.args_tuple_eq_2 _ _)) (Nat.lt_of_succ_lt hu))
theorem xK{ks:List Int}{a:Addr}{n:Nat}{Q:Bool->Shared->Prop}(hk:IsTupleKey (intKind prog w) s.heap ks a)(q:Q true s):wpAny (model prog w) A (eqIsQuiet (n+1) (.ref a)) Q E s:=by
 have hT:=hk.typeIs;obtain⟨o,items,m,ho,_,hd,hi⟩:=hk;unfold eqIsQuiet;refine wpAny_bind (wpAny_specialOf hT F.slot_tuple_eq.lookup ?_);show wpAny _ _ (isInstance (.ref a) (.type "tuple") >>= _) _ _ s;refine wpAny_bind (wpAny_isInstance hT isSubtype_tuple_tuple ?_);simp only[Bool.not_true,Bool.false_eq_true,if_false];refine wpAny_bind (wpAny_seqItems ho hd (wpAny_bind ?_));show wpAny _ _ (forIn items _ _) _ _ s;rw[←Array.forIn_toList];refine wpAny_forIn_list _ (fun gk r s'=>r.1=none∧s'=s∧∀v∈gk,carriedByValue v=true) _ ?_ ?_ _ _ ⟨rfl,rfl,hi.byValue⟩
 ·rintro v gk r s' ⟨hr,rfl,hall⟩;rw[eqIsQuiet_byValue _ (hall v KJ)];refine wpAny_bind (wpAny_pure ?_);simp only[Bool.not_true,Bool.false_eq_true,if_false];exact wpAny_pure ⟨rfl,rfl,fun u z=>hall u (KH _ z)⟩
 ·rintro⟨r1,r2⟩ s' ⟨hr,rfl,_⟩;simp only at hr;subst hr;exact wpAny_pure q
theorem Ec{k:PK}{a:Addr}{Q:Bool->Shared->Prop}(hk:jL prog w s.heap k a)(q:Q true s):wpAny (model prog w) A (eqIsQuiet 8 (.ref a)) Q E s:=by
 have hT:=hk.typeIs;obtain⟨o,n,t,b,ho,_,hd,hb⟩:=hk;unfold eqIsQuiet;refine wpAny_bind (wpAny_specialOf hT F.slot_tuple_eq.lookup ?_);show wpAny _ _ (isInstance (.ref a) (.type "tuple") >>= _) _ _ s;refine wpAny_bind (wpAny_isInstance hT isSubtype_tuple_tuple ?_);simp only[Bool.not_true,Bool.false_eq_true,if_false];refine wpAny_bind (wpAny_seqItems ho hd (wpAny_bind ?_));show wpAny _ _ (forIn (#[Value.int k.1 t,.ref b]:Array Value) _ _) _ _ s;rw[←Array.forIn_toList];simp only[List.forIn_cons,List.forIn_nil];rw[eqIsQuiet_byValue _ (show carriedByValue (Value.int k.1 t)=true from rfl)]
 refine wpAny_bind (wpAny_bind (wpAny_pure ?_));simp only[Bool.not_true,Bool.false_eq_true,if_false];refine wpAny_pure (wpAny_bind (wpAny_bind (xK hb ?_)));simp only[Bool.not_true,Bool.false_eq_true,if_false];exact wpAny_pure (wpAny_pure (wpAny_pure q))
end
def o8(prog:Program)(w:World):HeapKind prog w PK where
 is:=jL prog w
 hash:=zo prog w
 draws:=fun k=>k.2.length+3
 room:=fun A=>A.units+1 < cLine
 inj:=fun hx hy=>hx.inj hy
 keeps:=fun x ho hd hs=>x.keeps ho hd hs
 pyHash:=fun hu hk h=>EY hu hk h
 eqBool:=fun hu hx hy h=>J9 hu hx hy h
 quiet:=fun hk h=>Ec hk h
end XN
namespace XN
open PySem PySem.Spec PyProof.Rows L2
abbrev NK:=PK×Addr×V
def pF(kvs:List NK)(xs:List (PK×Addr×Value)):Prop:=Paired (fun(p:NK)(q:PK×Addr×Value)=>p.1=q.1∧p.2.1=q.2.1∧bg p.2.2 q.2.2) kvs xs
def Kg(P:Program)(w:World)(h:Heap)(a:Addr)(kvs:List NK):Prop:=kvs.length≤sizeLine∧(a==sysModules)=false∧∃xs,pF kvs xs∧∃o es ep,h.get? a=some o∧o.ExactDict∧o.data=.dict es ep∧es.toList=xs.map (entryOfKey (o8 P w))∧(xs.map (·.1)).Nodup
def DN(P:Program)(w:World)(a:Addr)(kvs:List NK):HO:=.ext fun h=>Kg P w h a kvs
inductive PKAt(H:Hp)(k:PK)(a:Addr):Prop
 | mk (b:_):H a=some (.tup [.int k.1,.ref b])->H b=some (.tup (k.2.map V.int))->PKAt H k a
def KeysIn(H:Hp)(kvs:List NK):Prop:=∀p∈kvs,PKAt H p.1 p.2.1
def getN(kvs:List NK)(k:PK):Option V:=(kvs.find? fun p=>decide (p.1=k)).map fun p=>p.2.2
theorem Gh{P:Program}{w:World}{H:Hp}{h:Heap}{a:Addr}{kvs:List NK}(d:Kg P w h a kvs):bB P w H h a (DN P w a kvs):=by
 obtain⟨_,_,xs,_,o,es,ep,ho,_⟩:=id d;refine⟨d,⟨o,ho⟩,fun h1 h2 p k=>?_⟩;obtain⟨z,y,xs,r,o,es,ep,ho,q⟩:=p;exact⟨z,y,xs,r,o,es,ep,k o ho,q⟩
section
variable{P:Program}{w:World}{H:Hp}{h:Heap}{a:Addr}
theorem tm:∀{ks:List Int}{us:List Value},b8 (ks.map V.int) us->ItemsAre (intKind P w) ks us
 | [],_,r=>by rw[List.map_nil] at r;cases r;exact .nil
 | k::ks,_,r=>by
  rw[KR] at r;cases r with
  | cons h t =>
   obtain⟨tk,rfl⟩:=h;exact .cons (intKind_is ..) (tm t)
theorem zV{k:PK}(ok:fN P w H h)(e:PKAt H k a):jL P w h k a:=by
 obtain⟨b,e1,e2⟩:=e;obtain⟨_,its,r,o,h1,h2,n,h3⟩:=(show bB P w H h a (.tup [.int k.1,.ref b]) from ok a _ e1)
 obtain⟨_,its2,r2,o2,g1,g2,n2,g3⟩:=(show bB P w H h b (.tup (k.2.map V.int)) from ok b _ e2)
 cases r with
 | cons r1 r=>cases r with
  | cons r3 r=>cases r with
   | nil =>
    obtain⟨t,rfl⟩:=r1;cases r3;exact⟨o,n,t,b,h1,h2,h3,o2,its2.toArray,n2,g1,g2,g3,by simpa using tm r2⟩
theorem Am{kvs:List NK}(ok:fN P w H h)(e:H a=some (DN P w a kvs))(ki:KeysIn H kvs):kvs.length≤sizeLine∧(a==sysModules)=false∧∃xs,pF kvs xs∧h.DictOfH (o8 P w) a xs:=by
 obtain⟨z,y,xs,r,o,es,ep,h1,h2,h3,h4,h5⟩:=(show bB P w H h a (DN P w a kvs) from ok a _ e).1
 refine⟨z,y,xs,r,o,es,ep,h1,h2,h3,h4,?_,h5⟩
 have all:∀{l:List NK}{m:List (PK×Addr×Value)},pF l m->(∀p∈l,PKAt H p.1 p.2.1)->∀x∈m,jL P w h x.1 x.2.1:=by
  intro l m q
  induction q with
  | nil=>intro _ x hx;cases hx
  | @cons p q ps qs hq t ih =>
   intro hk x hx;rcases List.mem_cons.mp hx with e | hx
   ·subst e;have:=zV ok (hk p KJ);rw[hq.1,hq.2.1] at this;exact this
   ·exact ih (fun p hp=>hk p (KH _ hp)) x hx
 exact all r ki
theorem pF.get:∀{kvs:List NK}{xs:List (PK×Addr×Value)},pF kvs xs->∀k:PK,gD (getN kvs k) ((atKey xs k).map (·.2))
 | _,_,.nil,_=>True.intro
 | _,_,.cons (a:=p) (b:=q) (l₁:=ps) (l₂:=qs) h t,k=>by
  by_cases e:p.1=k
  ·have e':q.1=k:=h.1.symm.trans e;have b:atKey (q::qs) k=some q.2:=by simp[atKey,List.find?_cons,e']
   have c:getN (p::ps) k=some p.2.2:=by simp[getN,List.find?_cons,e]
   rw[b,c];exact h.2.2
  ·have e':¬q.1=k:=fun z=>e (h.1.trans z);have b:atKey (q::qs) k=atKey qs k:=by simp[atKey,List.find?_cons,e']
   have c:getN (p::ps) k=getN ps k:=by simp[getN,List.find?_cons,e]
   rw[b,c];exact pF.get t k
theorem pF.len{kvs:List NK}{xs:List (PK×Addr×Value)}(r:pF kvs xs):kvs.length=xs.length:=Paired.length r
theorem pF.snoc:∀{kvs:List NK}{xs:List (PK×Addr×Value)}{k:PK}{b:Addr}{y:V}{u:Value},pF kvs xs->bg y u->pF (kvs++[(k,b,y)]) (xs++[(k,b,u)])
 | _,_,_,_,_,_,.nil,ry=>.cons ⟨rfl,rfl,ry⟩ .nil
 | _,_,_,_,_,_,.cons h t,ry=>.cons h (pF.snoc t ry)
end
theorem GB{prog:Program}{w:World}{A:Around}{E:Value->Shared->Prop}{s:Shared}{d:Addr}{xs:List (PK×Addr×Value)}{Q:Value->Shared->Prop}(hd:(d==sysModules)=false)(hm:s.heap.DictOfH (o8 prog w) d xs)(hfit:(xs.length:Int) < 2 ^ 63)
  (q:Q (.int xs.length (s.toks+1)) {s with toks:=s.toks+1+1}):wpAny (model prog w) A (call (.builtin "len") [.ref d]) Q E s:=by
 have hT:=hm.typeIs;obtain⟨o,es,ep,ho,hc,hdat,hl,_⟩:=hm;have hsz:es.size=xs.length:=by rw[←Lu,hl,Kv]
 refine PySem.Calls.call_function_entry kind_len plain_len entry_len (args_len1 _) ?_;unfold Builtin.«len»;refine wpAny_bind (m:=oneArg "len" _) (wpAny_pure ?_);refine wpAny_bind (m:=callSpecial? (.ref d) (Str.ofString "__len__")) (wpAny_callSpecial?_slot (name:=Str.ofString "__len__") hT F.slot_dict_len (wpAny_call_entry F.slot_dict_len hT F.entry_dict_len ?_ (F.args_dict_len_1 _)));unfold Builtin.«dict.__len__» Builtin.Dict.dictSlotNone;refine wpAny_bind (wpAny_bind (wpAny_notOrdered_dict hT ?_));show wpAny _ _ (pure (Value.ref d)) _ _ s;refine wpAny_pure (wpAny_bind (m:=Builtin.Dict.addrOf (.ref d)) (wpAny_pure ?_));unfold dictSize;refine wpAny_bind (wpAny_bind (wpAny_dictEntries ho hdat (wpAny_pure ?_)));refine wpAny_bind (wpAny_pendingCount_other hd ?_);refine wpAny_ret_mkInt ?_;rw[Nat.add_zero,hsz];show wpAny _ _ _ _ _ {s with toks:=s.toks+1}
 refine wpAny_bind (wpAny_holding (wpAny_pure ?_));refine wpAny_bind (wpAny_letGo ?_);show wpAny _ _ (if((xs.length:Nat):Int) < 0 then _ else _) _ _ _;rw[if_neg (by omega)]
 show wpAny _ _ (if((xs.length:Nat):Int) ≥ 2 ^ 63 then _ else _) _ _ _;rw[if_neg (by omega)]
 exact wpAny_bind (wpAny_mkInt (wpAny_pure ⟨_,rfl,q⟩))
def HW(P:Program)(w:World):TE:=fun _ H Q=>∀p,H p=none->Q (.ref p) (upd H p (DN P w p []))
inductive Em(P:Program)(w:World)(Q:VK)(x:V)(y:V)(H2:Hp):Prop
 | mk (a kvs k b v:_):x=.ref a->y=.ref b->H2 a=some (DN P w a kvs)->KeysIn H2 kvs->PKAt H2 k b->getN kvs k=some v->Q v H2->Em P w Q x y H2
def tNGet(P:Program)(w:World)(td ty:TE):TE:=fun σ H Q=>td σ H fun x H1=>ty σ H1 fun y H2=>Em P w Q x y H2
inductive xV(P:Program)(w:World)(Q:VK)(y:V)(x:V)(H2:Hp):Prop
 | mk (a kvs k b:_):x=.ref a->y=.ref b->H2 a=some (DN P w a kvs)->KeysIn H2 kvs->PKAt H2 k b->Q (.bl (!(getN kvs k).isSome)) H2->xV P w Q y x H2
def FO(P:Program)(w:World)(ty td:TE):TE:=fun σ H Q=>ty σ H fun y H1=>td σ H1 fun x H2=>xV P w Q y x H2
inductive Ct(P:Program)(w:World)(D:m6)(σ:L2.St)(v:V)(x:V)(y:V)(H3:Hp):Prop
 | mk (a kvs k b:_):x=.ref a->y=.ref b->H3 a=some (DN P w a kvs)->KeysIn H3 kvs->PKAt H3 k b->getN kvs k=none->kvs.length < sizeLine->D.nx σ (upd H3 a (DN P w a (kvs++[(k,b,v)])))->Ct P w D σ v x y H3
def Iv(P:Program)(w:World)(td ty tv:TE):TS:=fun D σ H=>tv σ H fun v H1=>td σ H1 fun x H2=>ty σ H2 fun y H3=>Ct P w D σ v x y H3
section
variable{X:Cx}{o i value:Expr}{pos pos':Pos}{td ty tv:TE}
theorem pe_nnew:PE X (.Dict [] [] pos) (HW X.prog X.w):=fun pins s σ H Q I h =>
 wpAny_Dict_empty ⟨.ref s.heap.objs.size,_,I.laid (a:=s.heap.objs.size) (o:=DN X.prog X.w s.heap.objs.size []) (t':=s.toks) (fun _ _ q=>KB _ q) (KG _)
  (Gh ⟨KZ _,beq_eq_false_iff_ne.mpr (Ne.symm (Lj I.big)),[],.nil,_,#[],0,KD _ rfl,⟨rfl,rfl,rfl⟩,rfl,rfl,List.nodup_nil⟩),rfl,h _ (I.hok.fresh (KG _))⟩
theorem pe_nget(hu:X.A.units+2 < cLine)(ho:PE X o td)(hi:PE X i ty)(hs:Dd i):PE X (.Subscript o i pos) (tNGet X.prog X.w td ty):=by
 intro pins s σ H Q I h;refine pZ PySem.F.slot_dict_getitem.lookup hs (bE (ho pins s σ H _ I h) fun u s1 ⟨x,H1,I1,rx,q1⟩=>bE (hi pins s1 σ H1 _ I1 q1) fun iv s2 ⟨y,H2,I2,ry,a,kvs,k,b,v,ex,ey,ha,ki,hk,hg,q2⟩=>?_);subst ex ey;obtain rfl:u=Value.ref a:=rx;obtain rfl:iv=Value.ref b:=ry;obtain⟨z,hd,xs,rel,dd⟩:=Am I2.hok ha ki;obtain⟨w',hw,rw'⟩:=gD.some_of (v:=v) (o:=(atKey xs k).map (·.2)) (by rw[←hg];exact rel.get k)
 obtain⟨p,hp,hp2⟩:=KF.mp hw;refine⟨dd.typeIs,wpAny_getItem_heap (knd:=o8 X.prog X.w) (show X.A.units+1+1 < cLine from hu) (zV I2.hok hk) dd hp ?_⟩
 rw[hp2];exact⟨v,H2,I2.tok _,rw',q2⟩
theorem pc_nnotin(hu:X.A.units+2 < cLine)(hi:PE X i ty)(ho:PE X o td):PC X .NotIn i o (FO X.prog X.w ty td):=by
 intro pins s σ H Q I h;refine bE (hi pins s σ H _ I h) fun iv s1 ⟨y,H1,I1,ry,q1⟩=>bE (ho pins s1 σ H1 _ I1 q1) fun u s2 ⟨x,H2,I2,rx,a,kvs,k,b,ex,ey,ha,ki,hk,q2⟩=>?_;subst ex ey;obtain rfl:u=Value.ref a:=rx;obtain rfl:iv=Value.ref b:=ry;obtain⟨z,hd,xs,rel,dd⟩:=Am I2.hok ha ki;refine wpAny_notIn_heap (knd:=o8 X.prog X.w) (show X.A.units+1+1 < cLine from hu) (zV I2.hok hk) hd dd ?_
 have e:=(rel.get k).isSome_eq;rw[Option.isSome_map] at e;exact⟨.bl _,H2,I2.tok _,rfl,by rw[←e];exact q2⟩
theorem ps_nput(hu:X.A.units+2 < cLine)(ho:PE X o td)(hi:PE X i ty)(hv:PE X value tv)(hs:swapsWith value (some (.Subscript o i pos')) pos.line X.env=pure false):PS X (.Assign [.Subscript o i pos'] value pos) (Iv X.prog X.w td ty tv):=by
 intro pins s σ H D I h;refine wpAny_Assign_Subscript (bE (hv pins s σ H _ I h) fun r s1 ⟨v,H1,I1,rv,q1⟩=>bE (ho pins s1 σ H1 _ I1 q1) fun u s2 ⟨x,H2,I2,rx,q2⟩=>bE (hi pins s2 σ H2 _ I2 q2) fun iv s3 ⟨y,H3,I3,ry,a,kvs,k,b,ex,ey,ha,ki,hk,hg,hl,q3⟩=>?_) hs;subst ex ey;obtain rfl:u=Value.ref a:=rx;obtain rfl:iv=Value.ref b:=ry;obtain⟨z,hd,xs,rel,dd⟩:=Am I3.hok ha ki;have hz:xs.length≤sizeLine:=by rw[←rel.len];exact z
 have hno:atKey xs k=none:=by
  have e:=(rel.get k).isSome_eq;rw[hg,Option.isSome_map] at e;cases q:atKey xs k with
  | none=>rfl
  | some _=>rw[q] at e;exact absurd e (by simp)
 refine wpAny_setItem_heap (knd:=o8 X.prog X.w) (hsz:=hz) (show X.A.units+1+1 < cLine from hu) (zV I3.hok hk) dd fun h' dd' hs'=>?_
 rw[storedH_new hno] at dd';obtain⟨q,es,ep,hq,h2,h3,h4,_,h5⟩:=dd';refine⟨σ,_,uv (a:=a) I3 (by rw[ha];exact True.intro) hs' ⟨q,hq⟩ (Gh ⟨by rw[Ky,KY];omega,hd,_,rel.snoc rv,q,es,ep,hq,h2,h3,h4,h5⟩),q3⟩
theorem cr_lenN:eN X (.builtin "len") (fun xs H Q=>∃a kvs,xs=[V.ref a]∧H a=some (DN X.prog X.w a kvs)∧KeysIn H kvs∧Q (.int kvs.length) H):=by
 intro pins s σ H xs us Q I r h;obtain⟨a,kvs,rfl,ha,ki,q⟩:=h;obtain⟨u,rfl,ru⟩:=oM r;cases ru;obtain⟨z,hd,ys,rel,dd⟩:=Am I.hok ha ki;refine GB hd dd (by rw[←rel.len];rw[sizeLine_eq] at z;omega) ?_
 rw[←rel.len];exact⟨.int kvs.length,H,I.tok _,⟨_,rfl⟩,q⟩
end
end XN
namespace XP
open PySem
abbrev wX(h:Heap)(z TI TO T0:Addr)(f1:Bool):Prop :=
 h.get? z=some {cls:=.type "zip",dict:=none,data:=.fields #[rawInt T0,.bool f1,.bool false,.ref TI,.ref TO],slots:=#[]}
section
variable{prog:Program}{w:World}{A:Around}{E:Value->Shared->Prop}{s:Shared}
theorem Kl{M:Model}{a:Addr}{Q:Option Obj->Shared->Prop}(h:Q (s.heap.get? a) s):wpAny M A (loadIfAlive a) Q E s:=fun _ _ _=>h
theorem wO{z TI TO T0:Addr}{f1:Bool}{o0:Obj}{Q:Bool->Shared->Prop}(hz:wX s.heap z TI TO T0 f1)(h0:s.heap.get? T0=some o0)
  (q:∀h',wX h' z TI TO T0 true->Heap.SameBut z s.heap h'->Q false {s with heap:=h'}):wpAny (model prog w) A (Builtin.SmallTypes.ownedTupleIsFree (.ref z)) Q E s:=by
 unfold Builtin.SmallTypes.ownedTupleIsFree;refine wpAny_bind (wpAny_field hz rfl (x:=rawInt T0) rfl ?_);show wpAny _ _ (loadIfAlive ((T0:Nat):Int).toNat >>= _) _ _ s;rw[Lk];refine wpAny_bind (Kl ?_);rw[h0];refine wpAny_ite_split (fun hab=>absurd hab (by simp)) (fun _=>?_)
 refine wpAny_bind (wpAny_field hz rfl (x:=.bool f1) rfl ?_);cases f1 with
 | true =>
  refine wpAny_ite_split (fun hab=>absurd hab (by decide)) (fun _=>wpAny_pure ?_)
  have:=q s.heap hz (Heap.SameBut.refl z s.heap);cases s;exact this
 | false =>
  refine wpAny_ite_split (fun _=>?_) (fun hab=>absurd (by decide) hab)
  exact wpAny_bind (wpAny_setField_rec hz (by simp) fun h' hz' sb=>wpAny_pure (q h' hz' sb))
theorem C2{z TI TO T0 i1 i2 l1 l2:Addr}{k1 k2:Nat}{f1:Bool}{o0:Obj}{xs ys:Array Value}{x y:Value}{Q:Option Value->Shared->Prop}(D:ZipApart z TI TO i1 i2 l1 l2)(hz:wX s.heap z TI TO T0 f1)(h0:s.heap.get? T0=some o0)
  (hTI:IsPair s.heap TI (.ref i1) (.ref i2))(h1:s.heap.IsListIter i1 l1 k1)(h2:s.heap.IsListIter i2 l2 k2)(hl1:s.heap.IsList l1 xs)(hl2:s.heap.IsList l2 ys)(hx:xs[k1]?=some x)(hy:ys[k2]?=some y)
  (q:∀h',wX h' z TI TO T0 true->h'.IsListIter i1 l1 (k1+1)->h'.IsListIter i2 l2 (k2+1)->IsPair h' s.heap.objs.size x y →
   (∀c o,c≠z->c≠i1->c≠i2->s.heap.get? c=some o->h'.get? c=some o)->Q (some (.ref s.heap.objs.size)) {s with heap:=h'}):wpAny (model prog w) A (pyNext (.ref z)) Q E s:=by
 have hT:s.TypeIs (.ref z) "zip":=⟨_,hz,rfl⟩;unfold pyNext;refine wpAny_bind (wpAny_attempt (wpAny_callSpecial?_slot (name:=Str.ofString "__next__") hT F.slot_zip_next (wpAny_call_entry F.slot_zip_next hT F.entry_zip_next ?_ (F.args_zip_next_1 _))));show wpAny _ _ (field (.ref z) 2 >>= _) _ _ _;refine wpAny_bind (wpAny_field hz rfl (x:=.bool false) rfl ?_);show wpAny _ _ (field (.ref z) 3 >>= _) _ _ _;refine wpAny_bind (wpAny_field hz rfl (x:=.ref TI) rfl (wpAny_bind (wpAny_seqItems hTI rfl ?_)));show wpAny _ _ (Builtin.SmallTypes.ownedTupleIsFree (.ref z) >>= _) _ _ _;refine wpAny_bind (wO hz h0 fun h₁ hz₁ sb₁=>?_);simp only[Bool.false_eq_true,if_false];refine wpAny_bind ?_;rw[←Array.forIn_toList];simp only[List.forIn_cons,List.forIn_nil];refine wpAny_bind (wpAny_bind (wpAny_holding ?_));show wpAny _ _ (Builtin.SmallTypes.nextOf (.ref i1) >>= _) _ _ _;refine wpAny_bind (wpAny_nextOf_list_item (h1.extBut sb₁.extBut D.i1z) (hl1.extBut sb₁.extBut D.l1z) hx fun h₂ h1₂ sb₂=>wpAny_pure (wpAny_pure ?_));refine wpAny_bind (wpAny_bind (wpAny_holding ?_));show wpAny _ _ (Builtin.SmallTypes.nextOf (.ref i2) >>= _) _ _ _;refine wpAny_bind (wpAny_nextOf_list_item ((h2.extBut sb₁.extBut D.i2z).extBut sb₂.extBut D.i12.symm) ((hl2.extBut sb₁.extBut D.l2z).extBut sb₂.extBut D.l2i1) hy fun h₃ h2₃ sb₃=>wpAny_pure (wpAny_pure (wpAny_pure ?_)));have hsz:h₃.objs.size=s.heap.objs.size:=by rw[sb₃.1,sb₂.1,sb₁.1]
 have up:∀c o,c≠z->c≠i1->c≠i2->s.heap.get? c=some o->h₃.get? c=some o:=fun c o a b d e=>sb₃.extBut _ _ d (sb₂.extBut _ _ b (sb₁.extBut _ _ a e));have hz₃:wX h₃ z TI TO T0 true:=sb₃.extBut _ _ D.i2z.symm (sb₂.extBut _ _ D.i1z.symm hz₁);have h1₃:h₃.IsListIter i1 l1 (k1+1):=h1₂.extBut sb₃.extBut D.i12;refine wpAny_bind (wpAny_newTuple ?_ (by show 2≤sizeLine;decide))
 refine wpAny_pure ⟨_,rfl,wpAny_pure ?_⟩;show Q (some (.ref h₃.objs.size)) _;have fin:=q (h₃.push {cls:=.type "tuple",data:=.seq #[x,y]}) (KB _ hz₃) (h1₃.at fun o e=>KB _ e) (h2₃.at fun o e=>KB _ e) (by rw[←hsz];exact KD _ rfl) fun c o a b d e=>KB _ (up c o a b d e)
 rw[hsz];exact fin
theorem DQ{z TI TO T0 i1 i2 l1 l2:Addr}{k1:Nat}{f1:Bool}{o0:Obj}{xs:Array Value}{Q:Option Value->Shared->Prop}(hh:A.handled=none)(D:ZipApart z TI TO i1 i2 l1 l2)(hz:wX s.heap z TI TO T0 f1)(h0:s.heap.get? T0=some o0)
  (hTI:IsPair s.heap TI (.ref i1) (.ref i2))(h1:s.heap.IsListIter i1 l1 k1)(hl1:s.heap.IsList l1 xs)(hx:xs[k1]?=none)
  (q:∀h',(∀c o,c≠z->c≠i1->s.heap.get? c=some o->h'.get? c=some o)->Q none {s with heap:=h'}):wpAny (model prog w) A (pyNext (.ref z)) Q E s:=by
 have hT:s.TypeIs (.ref z) "zip":=⟨_,hz,rfl⟩;unfold pyNext;refine wpAny_bind (wpAny_attempt (wpAny_callSpecial?_slot (name:=Str.ofString "__next__") hT F.slot_zip_next (wpAny_call_entry F.slot_zip_next hT F.entry_zip_next ?_ (F.args_zip_next_1 _))));show wpAny _ _ (field (.ref z) 2 >>= _) _ _ _;refine wpAny_bind (wpAny_field hz rfl (x:=.bool false) rfl ?_);show wpAny _ _ (field (.ref z) 3 >>= _) _ _ _;refine wpAny_bind (wpAny_field hz rfl (x:=.ref TI) rfl (wpAny_bind (wpAny_seqItems hTI rfl ?_)));show wpAny _ _ (Builtin.SmallTypes.ownedTupleIsFree (.ref z) >>= _) _ _ _;refine wpAny_bind (wO hz h0 fun h₁ hz₁ sb₁=>?_);simp only[Bool.false_eq_true,if_false];refine wpAny_bind ?_;rw[←Array.forIn_toList];simp only[List.forIn_cons,List.forIn_nil];refine wpAny_bind (wpAny_bind (wpAny_holding ?_));show wpAny _ _ (Builtin.SmallTypes.nextOf (.ref i1) >>= _) _ _ _;refine wpAny_bind (wpAny_nextOf_list_end hh (h1.extBut sb₁.extBut D.i1z) (hl1.extBut sb₁.extBut D.l1z) hx fun h₂ e sb₂ he=>?_);obtain⟨o,ho,hc⟩:=he;refine wpAny_bind (wpAny_isInstance (T:="StopIteration") (b:=true) ⟨o,ho,hc⟩ isSubtype_stop ?_);exact wpAny_pure (q _ fun c o a b e=>sb₂ _ _ b (sb₁.extBut _ _ a e))
end
structure Zp where
 z:Addr
 TI:Addr
 TO:Addr
 i1:Addr
 i2:Addr
 l1:Addr
 l2:Addr
structure HC(Z:Zp)(xs ys:Array Value)(i:Nat)(h:Heap):Prop where
 z:(i=0∧IsZip h Z.z Z.TI Z.TO .none∧∃a b,IsPair h Z.TO a b)∨∃T0 o0 f1,wX h Z.z Z.TI Z.TO T0 f1∧h.get? T0=some o0∧T0∉[Z.z,Z.TO,Z.i1,Z.i2]
 to:∃o,h.get? Z.TO=some o
 ti:IsPair h Z.TI (.ref Z.i1) (.ref Z.i2)
 it1:h.IsListIter Z.i1 Z.l1 i
 it2:h.IsListIter Z.i2 Z.l2 i
 li1:h.IsList Z.l1 xs
 li2:h.IsList Z.l2 ys
structure Jm(N S:Addr)(Z:Zp)(xs ys:Array Value)(h:Heap)(acc:Array Value)(Ts:List Addr):Prop where
 eq:acc.toList=Ts.map Value.ref
 nd:Ts.Nodup
 new:∀T∈Ts,N≤T∧T < h.objs.size∧T∉[Z.z,Z.TO,Z.i1,Z.i2,S]
 at_:∀(j:Nat)(T:Addr),Ts[j]?=some T->∃x y,xs[j]?=some x∧ys[j]?=some y∧IsPair h T x y
theorem HC.keep{Z:Zp}{xs ys:Array Value}{i:Nat}{h h':Heap}(A:HC Z xs ys i h)(k:∀b o,h.get? b=some o->b∈[Z.z,Z.TI,Z.TO,Z.i1,Z.i2,Z.l1,Z.l2]∨(∃x y,IsPair h b x y)->h'.get? b=some o)(k2:∀b o,h.get? b=some o->∃o',h'.get? b=some o'):HC Z xs ys i h':=by
 refine⟨?_,(let ⟨o,e⟩:=A.to;⟨o,k _ _ e (.inl (by simp))⟩),k _ _ A.ti (.inl (by simp)),A.it1.at fun o e=>k _ o e (.inl (by simp)),A.it2.at fun o e=>k _ o e (.inl (by simp)),A.li1.at fun o e=>k _ o e (.inl (by simp)),A.li2.at fun o e=>k _ o e (.inl (by simp))⟩
 rcases A.z with ⟨e,a,x,y,b⟩ | ⟨T0,o0,f1,a,b,c⟩
 ·exact .inl ⟨e,k _ _ a (.inl (by simp)),x,y,k _ _ b (.inl (by simp))⟩
 ·obtain⟨o',e⟩:=k2 _ _ b;exact .inr ⟨T0,o',f1,k _ _ a (.inl (by simp)),e,c⟩
section
variable{prog:Program}{w:World}{A:Around}{E:Value->Shared->Prop}{R:Result->Shared->Prop}
theorem IL{N S:Addr}{Z:Zp}{xs ys:Array Value}{res:Value}(D:ZipApart Z.z Z.TI Z.TO Z.i1 Z.i2 Z.l1 Z.l2)(hSa:S∉[Z.z,Z.TI,Z.TO,Z.i1,Z.i2,Z.l1,Z.l2])(hN:∀b∈[Z.z,Z.TO,Z.i1,Z.i2,S],N≤b)(hsz:ys.size=xs.size)(hfit:xs.size≤1000)(hh:A.handled=none) :
  ∀(d i:Nat)(s:Shared)(acc:Array Value)(c:Nat)(Ts:List Addr),xs.size - i=d->i≤xs.size->N≤s.heap.objs.size->HC Z xs ys i s.heap->s.heap.get? S=some {cls:=.type "list",dict:=none,data:=.seq acc c,slots:=#[]}->Ts.length=i->Jm N S Z xs ys s.heap acc Ts →
   (∀h' tk acc' c' Ts',(∀b o,b < N->s.heap.get? b=some o->h'.get? b=some o)->h'.get? S=some {cls:=.type "list",dict:=none,data:=.seq acc' c',slots:=#[]}->Ts'.length=xs.size->Jm N S Z xs ys h' acc' Ts'->R (.ok (.ret res)) {s with heap:=h',toks:=tk}) →
   codeAny (model prog w) A (.builtin "list.extend.loop" ⟨[.ref S,.ref Z.z,res],[]⟩) R s:=by
 have nS:∀b,b∈[Z.z,Z.TI,Z.TO,Z.i1,Z.i2,Z.l1,Z.l2]->b≠S:=fun b hb e=>hSa (e▸hb)
 have low:∀b,b < N->b≠Z.z∧b≠Z.TO∧b≠Z.i1∧b≠Z.i2∧b≠S:=fun b hb=>by
  refine⟨?_,?_,?_,?_,?_⟩<;>(intro e;exact absurd (hN b (by rw[e];simp)) (Nat.not_le.mpr hb))
 intro d
 induction d with
 | zero =>
  intro i s acc c Ts hd hi hNs st hS hT hp hR;obtain rfl:i=xs.size:=by omega
  refine codeAny_builtin F.entry_extend_loop ?_;rw[Around.under_plainId F.plain_extend_loop _];show wpAny _ A.in1 (pyNext (.ref Z.z) >>= _) _ _ s
  have fin:∀h',(∀c o,c≠Z.z->c≠Z.TO->c≠Z.i1->c≠Z.i2->s.heap.get? c=some o->h'.get? c=some o)->wpAny (model prog w) A.in1 (ret res) (fun fin s'=>match fin with | .done f=>R (.ok f) s' | .again c'=>c'.quiet=true∧codeAny (model prog w) A c' R s') (fun e s'=>R (.error e) s') {s with heap:=h'}:=fun h' k=>by
   refine wpAny_pure (hR h' s.toks acc c Ts (fun b o hb e=>?_) (k _ _ (nS _ (by simp)).symm (nS _ (by simp)).symm (nS _ (by simp)).symm (nS _ (by simp)).symm hS) hT ?_)
   ·obtain⟨a1,a2,a3,a4,_⟩:=low b hb;exact k b o a1 a2 a3 a4 e
   ·refine⟨hp.eq,hp.nd,fun T hm=>?_,fun j T e=>?_⟩
    ·obtain⟨n1,n2,n3⟩:=hp.new T hm;obtain⟨j,hj,e⟩:=List.getElem_of_mem hm;obtain⟨x,y,_,_,pr⟩:=hp.at_ j T (by rw[Kz hj,e])
     simp at n3;exact⟨n1,KC (k _ _ n3.1 n3.2.1 n3.2.2.1 n3.2.2.2.1 pr),by simp;exact n3⟩
    ·obtain⟨x,y,h1,h2,pr⟩:=hp.at_ j T e;have n3:=(hp.new T (KA e)).2.2;simp at n3;exact⟨x,y,h1,h2,k _ _ n3.1 n3.2.1 n3.2.2.1 n3.2.2.2.1 pr⟩
  have hx:xs[xs.size]?=none:=Array.getElem?_eq_none (KG _);rcases st.z with ⟨_,hz,a,b,hTO⟩ | ⟨T0,o0,f1,hz,h0,hn0⟩
  ·exact wpAny_bind (wpAny_pyNext_zip_end hh D hz st.ti hTO st.it1 st.it2 st.li1 st.li2 (.inl hx) fun h' k=>fin h' k)
  ·exact wpAny_bind (DQ hh D hz h0 st.ti st.it1 st.li1 hx fun h' k=>fin h' fun c o a1 _ a3 _ e=>k c o a1 a3 e)
 | succ d ih =>
  intro i s acc c Ts hd hi hNs st hS hT hp hR;have lt:i < xs.size:=by omega
  have hx:xs[i]?=some xs[i]:=Array.getElem?_eq_getElem lt;have hy:ys[i]?=some (ys[i]'(by omega)):=Array.getElem?_eq_getElem _
  refine codeAny_builtin F.entry_extend_loop ?_;rw[Around.under_plainId F.plain_extend_loop _];show wpAny _ A.in1 (pyNext (.ref Z.z) >>= _) _ _ s;have ltS:S < s.heap.objs.size:=KC hS;have zlt:∀b,b∈[Z.z,Z.TO,Z.i1,Z.i2,S]->(∃o,s.heap.get? b=some o)->s.heap.objs.size≠b:=fun b _ ⟨o,e⟩=>LN (KC e)
  have go:∀h1,(∃o,h1.get? Z.TO=some o)->(∃T0 o0 f1,wX h1 Z.z Z.TI Z.TO T0 f1∧h1.get? T0=some o0∧T0∉[Z.z,Z.TO,Z.i1,Z.i2])->h1.IsListIter Z.i1 Z.l1 (i+1)->h1.IsListIter Z.i2 Z.l2 (i+1)->IsPair h1 s.heap.objs.size xs[i] (ys[i]'(by omega))->s.heap.objs.size∉[Z.z,Z.TO,Z.i1,Z.i2,S] →
    (∀c o,c≠Z.z->c≠Z.TO->c≠Z.i1->c≠Z.i2->s.heap.get? c=some o->h1.get? c=some o) →
    wpAny (model prog w) A.in1 (updateSeq S (·.push (.ref s.heap.objs.size)) >>= fun _=>again (.builtin "list.extend.loop" ⟨[.ref S,.ref Z.z,res],[]⟩)) (fun fin s'=>match fin with | .done f=>R (.ok f) s' | .again c'=>c'.quiet=true∧codeAny (model prog w) A c' R s') (fun e s'=>R (.error e) s') {s with heap:=h1}:=by
   intro h1 hto hz1 hi1 hi2 hpr hTn k;have hS1:h1.get? S=some {cls:=.type "list",dict:=none,data:=.seq acc c,slots:=#[]}:=k _ _ (nS _ (by simp)).symm (nS _ (by simp)).symm (nS _ (by simp)).symm (nS _ (by simp)).symm hS
   have asz:acc.size=i:=by rw[←Lu,hp.eq,Kv,hT]
   have oth:∀b o,b≠S->h1.get? b=some o->(h1.update S (Obj.mapSeq (·.push (.ref s.heap.objs.size)))).get? b=some o:=fun b o hb e=>(Lv _ _ (Ne.symm hb)).trans e;have hS2:=Lw (Obj.mapSeq (·.push (Value.ref s.heap.objs.size))) hS1 rfl;have size2:(h1.update S (Obj.mapSeq (·.push (Value.ref s.heap.objs.size)))).objs.size=h1.objs.size:=Heap.size_after_update ..;have hNT:s.heap.objs.size < h1.objs.size:=KC hpr;refine wpAny_bind (wpAny_updateSeq hS1 rfl (wpAny_pure ⟨plainId_quiet F.plain_extend_loop _,ih (i+1) _ (acc.push (.ref s.heap.objs.size)) _ (Ts++[s.heap.objs.size]) (by omega) lt (by rw[size2];exact LR (LI hNs hNT)) ?_ hS2 (by rw[Ky,hT];rfl) ?_ fun h' tk acc' c' Ts' kp hS' hT' hp'=>?_⟩) (by rw[asz,sizeLine_eq];omega) (by show(acc.push _).size≤sizeLine+1;rw[Array.size_push,asz,sizeLine_eq];omega))
   ·obtain⟨T0,o0,f1,g1,g2,g3⟩:=hz1;refine⟨.inr ?_,(let ⟨o,e⟩:=hto;⟨o,oth _ _ (nS _ (by simp)) e⟩),oth _ _ (nS _ (by simp)) (k _ _ D.TIz D.TITO D.TIi1 D.TIi2 st.ti),hi1.at fun o e=>oth _ o (nS _ (by simp)) e,hi2.at fun o e=>oth _ o (nS _ (by simp)) e,?_,?_⟩
    ·by_cases e:T0=S
     ·subst e;exact⟨T0,_,f1,oth _ _ (nS _ (by simp)) g1,hS2,g3⟩
     ·exact⟨T0,o0,f1,oth _ _ (nS _ (by simp)) g1,oth _ _ e g2,g3⟩
    ·exact(st.li1.at fun o e=>k _ o D.l1z D.l1TO D.l1i1 D.l1i2 e).at fun o e=>oth _ o (nS _ (by simp)) e
    ·exact(st.li2.at fun o e=>k _ o D.l2z D.l2TO D.l2i1 D.l2i2 e).at fun o e=>oth _ o (nS _ (by simp)) e
   ·refine⟨by rw[Array.toList_push,hp.eq,KO];rfl,?_,fun T hm=>?_,fun j T e=>?_⟩
    ·rw[List.nodup_append];exact⟨hp.nd,by simp,fun a ha b hb e=>by rw[Lq] at hb;subst hb;subst e;exact absurd (hp.new _ ha).2.1 (Li _)⟩
    ·rcases Lb.mp hm with q | q
     ·obtain⟨n1,n2,n3⟩:=hp.new T q;exact⟨n1,by rw[size2];exact Nat.lt_trans n2 hNT,n3⟩
     ·rw[Lq] at q;subst q;exact⟨hNs,by rw[size2];exact hNT,hTn⟩
    ·rcases Nat.lt_or_ge j Ts.length with q | q
     ·rw[Lf q] at e;obtain⟨x,y,e1,e2,pr⟩:=hp.at_ j T e;have n3:=(hp.new T (KA e)).2.2;simp at n3;exact⟨x,y,e1,e2,oth _ _ n3.2.2.2.2 (k _ _ n3.1 n3.2.1 n3.2.2.1 n3.2.2.2.1 pr)⟩
     ·rw[Le q] at e
      have e0:j - Ts.length=0:=by
       rcases Nat.eq_zero_or_pos (j - Ts.length) with z | z
       ·exact z
       ·rw[L8 (by rw[KY];exact z)] at e;cases e
      rw[e0] at e;cases e;have ej:j=i:=by omega
      subst ej;simp at hTn;exact⟨_,_,hx,hy,oth _ _ hTn.2.2.2.2 hpr⟩
   ·refine hR h' tk acc' c' Ts' (fun b o hb e=>kp b o hb ?_) hS' hT' hp';obtain⟨a1,a2,a3,a4,a5⟩:=low b hb;exact oth _ _ a5 (k b o a1 a2 a3 a4 e)
  have fresh:∀(o1 o2:Obj),s.heap.get? Z.z=some o1->s.heap.get? Z.TO=some o2->s.heap.objs.size∉[Z.z,Z.TO,Z.i1,Z.i2,S]:=fun o1 o2 e1 e2=>by
   obtain⟨o3,e3,_⟩:=st.it1;obtain⟨o4,e4,_⟩:=st.it2;simp;exact⟨LN (KC e1),LN (KC e2),LN (KC e3),LN (KC e4),LN ltS⟩
  rcases st.z with ⟨_,hz,a,b,hTO⟩ | ⟨T0,o0,f1,hz,h0,hn0⟩
  ·refine wpAny_bind (wpAny_pyNext_zip_item D hz st.ti hTO st.it1 st.it2 st.li1 st.li2 hx hy fun h1 g1 g2 g3 g4 g5 g6 k=>?_);have fr:=fresh _ _ hz hTO;refine go h1 ⟨_,g2⟩ ⟨s.heap.objs.size,_,false,g1,g5,?_⟩ g3 g4 g5 fr k;simp at fr ⊢;exact⟨fr.1,fr.2.1,fr.2.2.1,fr.2.2.2.1⟩
  ·obtain⟨oT,eT⟩:=st.to;have fr:=fresh _ _ hz eT;refine wpAny_bind (C2 D hz h0 st.ti st.it1 st.it2 st.li1 st.li2 hx hy fun h1 g1 g3 g4 g5 k=>?_);have n0:=hn0;simp at n0;refine go h1 ⟨oT,k _ _ D.TOz D.TOi1 D.TOi2 eT⟩ ⟨T0,o0,true,g1,k _ _ n0.1 n0.2.2.1 n0.2.2.2 h0,hn0⟩ g3 g4 g5 fr fun c o a1 _ a3 a4 e=>k c o a1 a3 a4 e
end
theorem zN:typeLookup (.type "zip") "__len__"=pure none:=by rw[typeLookup_type,builtinLookup_eq_fast];kernel_rfl
theorem x5:typeLookup (.type "zip") "__length_hint__"=pure none:=by rw[typeLookup_type,builtinLookup_eq_fast];kernel_rfl
section
variable{prog:Program}{w:World}{A:Around}{E:Value->Shared->Prop}{R:Result->Shared->Prop}{s:Shared}
theorem IY{N S:Addr}{Z:Zp}{xs ys:Array Value}(D:ZipApart Z.z Z.TI Z.TO Z.i1 Z.i2 Z.l1 Z.l2)(hSa:S∉[Z.z,Z.TI,Z.TO,Z.i1,Z.i2,Z.l1,Z.l2])(hN:∀b∈[Z.z,Z.TO,Z.i1,Z.i2,S],N≤b)(hsz:ys.size=xs.size)(hfit:xs.size≤1000)(hh:A.handled=none)
  (hNs:N≤s.heap.objs.size)(hz:IsZip s.heap Z.z Z.TI Z.TO .none)(st:HC Z xs ys 0 s.heap)(hS:s.heap.get? S=some {cls:=.type "list",data:=.seq #[]})
  (hR:∀h' tk acc' c' Ts',(∀b o,b < N->s.heap.get? b=some o->h'.get? b=some o)->h'.get? S=some {cls:=.type "list",dict:=none,data:=.seq acc' c',slots:=#[]}->Ts'.length=xs.size->Jm N S Z xs ys h' acc' Ts'->R (.ok (.ret .none)) {s with heap:=h',toks:=tk}) :
  wpAny (model prog w) A.in1 (Builtin.«list.__init__» ⟨[.ref S,.ref Z.z],[]⟩) (fun fin s'=>match fin with | .done f=>R (.ok f) s' | .again c'=>c'.quiet=true∧codeAny (model prog w) A c' R s') (fun e s'=>R (.error e) s') s:=by
 have nS:∀b,b∈[Z.z,Z.TI,Z.TO,Z.i1,Z.i2,Z.l1,Z.l2]->b≠S:=fun b hb e=>hSa (e▸hb);have lowS:∀b,b < N->b≠S:=fun b hb e=>absurd (hN b (by rw[e];simp)) (Nat.not_le.mpr hb)
 show wpAny _ A.in1 (do let old ←Builtin.List.listItems (.ref S);Builtin.List.listUpdate (.ref S) (fun _=>#[]);letGo old.toList.reverse;Builtin.List.listExtendWith (.ref S) (.ref Z.z) .none) _ _ s
 refine wpAny_bind ?_;unfold Builtin.List.listItems;refine wpAny_bind (wpAny_seqItems hS rfl (wpAny_pure ?_));show wpAny _ A.in1 (updateSeq S (fun _=>#[]) >>= fun _=>letGo (#[]:Array Value).toList.reverse >>= fun _=>Builtin.List.listExtendWith (.ref S) (.ref Z.z) .none) _ _ s;refine wpAny_bind (wpAny_updateSeq hS rfl ?_);have hS2:=Lw (Obj.mapSeq (fun _=>(#[]:Array Value))) hS rfl;have o1:∀b o,b≠S->s.heap.get? b=some o->(s.heap.update S (Obj.mapSeq (fun _=>(#[]:Array Value)))).get? b=some o:=fun b o hb e=>(Lv _ _ (Ne.symm hb)).trans e;refine wpAny_bind (wpAny_letGo ?_);have hT2:Shared.TypeIs {s with heap:=s.heap.update S (Obj.mapSeq (fun _=>(#[]:Array Value)))} (.ref Z.z) "zip":=⟨_,o1 _ _ (nS _ (by simp)) hz,rfl⟩
 unfold Builtin.List.listExtendWith;refine wpAny_bind (wpAny_typeOf hT2 ?_);have e1:Builtin.List.listSameRef (.ref S) (.ref Z.z)=false:=by simp[Builtin.List.listSameRef,(nS Z.z (by simp)).symm]
 have e2:(Value.type "zip"==Value.type "list")=false:=by decide
 have e3:(Value.type "zip"==Value.type "tuple")=false:=by decide
 simp only[e1,e2,e3,Bool.or_false,Bool.false_eq_true,if_false];refine wpAny_bind (wpAny_pyIter_zip (o1 _ _ (nS _ (by simp)) hz) (wpAny_bind (wpAny_holding ?_)))
 unfold Builtin.List.listLengthHint;refine wpAny_bind (wpAny_specialOf hT2 zN ?_);show wpAny _ A.in1 (specialOf (Value.ref Z.z) (Str.ofString "__length_hint__") >>= _) _ _ _;refine wpAny_bind (wpAny_specialOf hT2 x5 (wpAny_pure ?_));show wpAny _ A.in1 (rule "list.extend.makes-room" >>= fun _=>Builtin.List.listTouch (.ref S) >>= fun _=>again (.builtin "list.extend.loop" ⟨[.ref S,.ref Z.z,.none],[]⟩)) _ _ _;refine wpAny_bind (wpAny_rule (wpAny_bind ?_));show wpAny _ A.in1 (updateSeq S (·.push .none) >>= fun _=>updateSeq S (·.pop)) _ _ _;refine wpAny_bind (wpAny_updateSeq hS2 rfl ?_);have hS3:=Lw (Obj.mapSeq (·.push Value.none)) hS2 rfl;refine wpAny_updateSeq (hz:=by seq_fits) hS3 rfl ?_
 have hS4:=Lw (Obj.mapSeq (·.pop)) hS3 rfl
 have o4:∀b o,b≠S->s.heap.get? b=some o->(((s.heap.update S (Obj.mapSeq (fun _=>(#[]:Array Value)))).update S (Obj.mapSeq (·.push Value.none))).update S (Obj.mapSeq (·.pop))).get? b=some o :=
  fun b o hb e=>(Lv _ _ (Ne.symm hb)).trans ((Lv _ _ (Ne.symm hb)).trans (o1 b o hb e))
 have zz:∀(h:Heap)(f:Obj->Obj),(h.update S f).objs.size=h.objs.size:=fun h f=>Heap.size_after_update ..;refine wpAny_pure ⟨plainId_quiet F.plain_extend_loop _,IL D hSa hN hsz hfit hh (xs.size - 0) 0 _ _ _ [] rfl (KZ _) (by rw[zz,zz,zz];exact hNs) ?_ hS4 rfl ⟨rfl,List.nodup_nil,fun T hm=>(by cases hm),fun j T e=>(by simp at e)⟩ fun h' tk acc' c' Ts' kp hS' hT' hp'=>hR h' tk acc' c' Ts' (fun b o hb e=>kp b o hb (o4 b o (lowS b hb) e)) hS' hT' hp'⟩
 have zS:∀b o,s.heap.get? b=some o->b∈[Z.z,Z.TI,Z.TO,Z.i1,Z.i2,Z.l1,Z.l2]∨(∃x y,IsPair s.heap b x y)->b≠S:=fun b o e hb z=>by
  rcases hb with hb | ⟨x,y,hb⟩
  ·exact nS b hb z
  ·rw[z] at hb;have e9:=hS.symm.trans hb;simp at e9
 refine st.keep (fun b o e hb=>o4 b o (zS b o e hb) e) fun b o e=>?_
 by_cases z:b=S
 ·subst z;exact⟨_,hS4⟩
 ·exact⟨o,o4 b o z e⟩
theorem vU{N:Addr}{Z:Zp}{xs ys:Array Value}{Q:Value->Shared->Prop}(D:ZipApart Z.z Z.TI Z.TO Z.i1 Z.i2 Z.l1 Z.l2)(hN:∀b∈[Z.z,Z.TO,Z.i1,Z.i2],N≤b)(hsz:ys.size=xs.size)(hfit:xs.size≤1000)(hh:A.handled=none)
  (hNs:N≤s.heap.objs.size)(hlt:∀b∈[Z.z,Z.TI,Z.TO,Z.i1,Z.i2,Z.l1,Z.l2],b < s.heap.objs.size)(hz:IsZip s.heap Z.z Z.TI Z.TO .none)(st:HC Z xs ys 0 s.heap)
  (q:∀h' tk acc' c' Ts',(∀b o,b < N->s.heap.get? b=some o->h'.get? b=some o)->h'.get? s.heap.objs.size=some {cls:=.type "list",dict:=none,data:=.seq acc' c',slots:=#[]}->Ts'.length=xs.size->Jm N s.heap.objs.size Z xs ys h' acc' Ts'->Q (.ref s.heap.objs.size) {s with heap:=h',toks:=tk}) :
  wpAny (model prog w) A (call (.type "list") [.ref Z.z]) Q E s:=by
 have hSa:s.heap.objs.size∉[Z.z,Z.TI,Z.TO,Z.i1,Z.i2,Z.l1,Z.l2]:=fun hm=>Li _ (hlt _ hm);refine callType_codes (Q₁:=fun obj s₁=>obj=.ref s.heap.objs.size∧s₁={s with heap:=s.heap.push {cls:=.type "list",data:=.seq #[]}}) F.called_list (F.typeCall_list_1 _) F.entry_list_init (code_list_new _ ⟨rfl,rfl⟩) fun obj s₁ h₁=>?_
 obtain⟨rfl,rfl⟩:=h₁;have hS:(s.heap.push {cls:=.type "list",data:=.seq #[]}).get? s.heap.objs.size=some {cls:=.type "list",data:=.seq #[]}:=KD _ rfl;have up:∀b o,s.heap.get? b=some o->(s.heap.push {cls:=.type "list",data:=.seq #[]}).get? b=some o:=fun b o e=>KB _ e;refine⟨⟨_,hS,rfl⟩,F.args_list_init_2 _ _,IY (A:=A.in1) (N:=N) D hSa (fun b hb=>?_) hsz hfit hh (by rw[LP];exact Nat.le_succ_of_le hNs) (up _ _ hz) (st.keep (fun b o e _=>up b o e) fun b o e=>⟨o,up b o e⟩) hS fun h' tk acc' c' Ts' kp hS' hT' hp'=>?_⟩
 ·rcases Lb.mp (show b∈[Z.z,Z.TO,Z.i1,Z.i2]++[s.heap.objs.size] from hb) with e | e
  ·exact hN b e
  ·rw[Lq.mp e];exact hNs
 ·exact⟨rfl,q h' tk acc' c' Ts' (fun b o hb e=>kp b o hb (up b o e)) hS' hT' hp'⟩
end
end XP
namespace XP
open PySem PySem.Spec PyProof.Rows L2 Can
section
variable{X:Cx}{pins:List (Addr×Obj)}{σ:L2.St}{H:Hp}{s:Shared}
theorem Gk{a:Addr}{o:HO}(I:aM X pins σ H s)(f:jr X pins H a)(hx:X.s_0.heap.objs.size≤a)(new:bB X.prog X.w (upd H a o) s.heap a o):aM X pins σ (upd H a o) s:=by
 obtain⟨f0,f1,f2,f3,f4,f5⟩:=f;refine⟨I.ok,I.os,I.bare,⟨I.base.keep,I.base.slot,fun b ob e n hb=>?_,I.base.there,fun b xs e=>?_,fun b ob u e=>?_,fun b ps e=>?_⟩,I.loc,I.cell,?_,fun x c e=>?_,fun p hp=>?_,fun b u e=>?_,I.len⟩
 ·rw[ak (Lj (KU (KC e) hx))];exact I.base.free b ob e n hb
 ·rw[ak (aq (I.base.tups b xs e) f0)];exact I.base.tups b xs e
 ·rw[ak (aq (I.base.frzs b ob u e) f0)];exact I.base.frzs b ob u e
 ·obtain⟨more,z⟩:=I.base.tbls b ps e;exact⟨more,by rw[ak (aq z f0)];exact z⟩
 ·rw[ak (Ne.symm f1)];exact I.free
 ·rw[ak (f4 x c e)];exact I.freeC x c e
 ·obtain⟨p1,p2,p3,p4,p5⟩:=I.pin p hp;exact⟨p1,by rw[ak (f5 p hp)];exact p2,p3,p4,p5⟩
 ·by_cases hb:b=a
  ·subst hb;rw[a9] at e;cases e;exact new
  ·rw[ak hb] at e;exact(I.hok b u e).stay (fun _ _ _ q=>q) (fun c q=>by rw[ak (aq q f0)];exact q) fun c xs q=>by rw[ak (aq q f0)];exact q
theorem GJ{a b:Addr}{o:HO}(f:jr X pins H b)(h:b≠a):jr X pins (L2.upd H a o) b:=by
 obtain⟨f0,r⟩:=f;exact⟨by rw[ak h];exact f0,r⟩
end
theorem oZ{X:Cx}{pins:List (Addr×Obj)}{σ:L2.St}{s:Shared}:∀(Ts:List Addr)(ps:List (V×V))(H:Hp),aM X pins σ H s->Ts.length=ps.length->Ts.Nodup->(∀T∈Ts,jr X pins H T∧X.s_0.heap.objs.size≤T) →
  (∀(j:Nat)(T:Addr)(p:V×V),Ts[j]?=some T->ps[j]?=some p->∃u v,bg p.1 u∧bg p.2 v∧IsPair s.heap T u v) →
  ∃H',aM X pins σ H' s∧aD H H'∧(∀b,b∉Ts->H' b=H b)∧∀(j:Nat)(T:Addr)(p:V×V),Ts[j]?=some T->ps[j]?=some p->H' T=some (.tup [p.1,p.2])
 | [],[],H,I,_,_,_,_=>⟨H,I,eU,fun _ _=>rfl,fun j T p e=>by simp at e⟩
 | [],_::_,_,_,hl,_,_,_=>by simp at hl
 | _::_,[],_,_,hl,_,_,_=>by simp at hl
 | T::Ts,p::ps,H,I,hl,hn,hf,hp=>by
  rw[List.nodup_cons] at hn;obtain⟨u,v,ru,rv,pr⟩:=hp 0 T p rfl rfl;obtain⟨f,hx⟩:=hf T KJ;have I1:=Gk (o:=.tup [p.1,p.2]) I f hx ⟨by show 2≤sizeLine;decide,[u,v],.cons ru (.cons rv .nil),_,pr,rfl,0,rfl⟩
  obtain⟨H',I',sm,oth,at_⟩:=oZ Ts ps _ I1 (by simpa using hl) hn.2 (fun T' hT'=>⟨GJ (hf T' (KH _ hT')).1 (fun e=>hn.1 (e▸hT')),(hf T' (KH _ hT')).2⟩) fun j T' p' e1 e2=>hp (j+1) T' p' e1 e2
  refine⟨H',I',(ah f.1).trans sm,fun b hb=>?_,fun j T' p' e1 e2=>?_⟩
  ·rw[oth b (fun z=>hb (KH _ z)),ak (fun e=>hb (by rw[e];exact KJ))]
  ·cases j with
   | zero=>cases e1;cases e2;exact sm _ _ a9
   | succ j=>exact at_ j T' p' e1 e2
inductive Im(K:Frag)(Q:VK)(vs:List V)(H1:Hp):Prop
 | mk (a b:Addr) (xs ys:List V):vs=[.ref a,.ref b]->aH K H1 a xs->aH K H1 b ys->ys.length=xs.length->xs.length≤1000->(∀(H':Hp)(p:Addr)(Ts:List Addr),H' p=some (.lst (Ts.map V.ref))->Ts.length=xs.length->(∀(j:Nat)(T:Addr)(x y:V),Ts[j]?=some T->xs[j]?=some x->ys[j]?=some y->H' T=some (.tup [x,y]))->aD H1 H'->Q (.ref p) H')->Im K Q vs H1
def Kk(K:Frag)(ta:TA):TE:=fun σ H Q=>ta σ H fun vs H1=>Im K Q vs H1
theorem pe_listzip{X:Cx}{e e2:Expr}{ta:TA}{p pos p2 pos2:Pos}(hcalm:X.calm=true)(hgl:Gl X "list")(hml:X.mg "list"=none)(hg:Gl X "zip")(hm:X.mg "zip"=none)(ha:PA X [e,e2] ta)
  (hs:starEach [e,e2] X.env=(false,eval e X.env)::starEach [e2] X.env:=by rfl)(hpl:(backTo pos2 (starEach [e2] X.env)).any (·.1)=false:=by rfl)
  (hs1:starEach [.Call (.Name "zip" p2) [e,e2] [] pos2] X.env=[(false,eval (.Call (.Name "zip" p2) [e,e2] [] pos2) X.env)]:=by rfl) :
  PE X (.Call (.Name "list" p) [.Call (.Name "zip" p2) [e,e2] [] pos2] [] pos) (Kk X.K ta):=by
 intro pins s σ H Q I h;refine wpAny_Call_Name_kw (iI I hgl hml (by decide +kernel:bootBuiltins "list"=some (.type "list")) ?_)
 refine PyProof.Rows.callWith_type1 ?_ hs1 rfl;rw[hs1];show wpAny _ _ (spliced ((false,eval (.Call (.Name "zip" p2) [e,e2] [] pos2) X.env)::backTo pos [])) _ _ s;refine Calls.spliced_cons ?_;refine Call_ (iI I hg hm o7 (PyProof.Rows.callWith_type1 (bE (ha pos2 pins s σ H _ I h) fun us s1 ⟨vs,H1,I1,r1,q1⟩=>?_) hs hpl));obtain⟨a,b,xs,ys,ex,hqx,hqy,hl,h1000,q⟩:=q1;subst ex;cases r1 with
 | cons r rr =>
  cases rr with
  | cons r' rr =>
   cases rr;cases r;cases r';obtain⟨its,rv,q1,_⟩:=I1.list hqx;obtain⟨its2,rv2,q2,_⟩:=I1.list hqy;have la:a < s1.heap.objs.size:=q1.lt;have lb:b < s1.heap.objs.size:=q2.lt;refine call_zip_2 q1.isList q2.isList fun h2 hz hTI hTO g1 g2 hsz hk=>?_;refine Calls.spliced_nil ?_
   let N:=s1.heap.objs.size
   let Z:Zp:=⟨N+4,N+2,N+3,N,N+1,a,b⟩
   have D:ZipApart Z.z Z.TI Z.TO Z.i1 Z.i2 Z.l1 Z.l2:=PySem.W.ktu_apart N a b la lb;have xl:its.toArray.size=xs.length:=by rw[KW,←rv.length]
   have yl:its2.toArray.size=its.toArray.size:=by rw[xl,KW,←rv2.length,hl]
   have st:HC Z its.toArray its2.toArray 0 h2:=⟨.inl ⟨rfl,hz,_,_,hTO⟩,⟨_,hTO⟩,hTI,g1,g2,q1.isList.at fun o e=>hk _ _ e,q2.isList.at fun o e=>hk _ _ e⟩
   have low:∀b∈[Z.z,Z.TO,Z.i1,Z.i2],N≤b:=fun c hc=>by
    rcases List.mem_cons.mp hc with e | hc
    ·rw[e];exact Nat.le_add_right _ _
    rcases List.mem_cons.mp hc with e | hc
    ·rw[e];exact Nat.le_add_right _ _
    rcases List.mem_cons.mp hc with e | hc
    ·rw[e];exact KG _
    rw[Lq.mp hc];exact Nat.le_add_right _ _
   have hNs:N≤h2.objs.size:=by rw[hsz];exact Nat.le_add_right _ _
   have hlt:∀c∈[Z.z,Z.TI,Z.TO,Z.i1,Z.i2,Z.l1,Z.l2],c < h2.objs.size:=fun c hc=>by
    have l5:∀k,k < 5->N+k < h2.objs.size:=fun k hk=>by rw[hsz];exact Nat.add_lt_add_left hk _
    have lab:∀c,c < N->c < h2.objs.size:=fun c hc=>KU hc hNs;simp only[List.mem_cons,LJ,or_false] at hc;rcases hc with e | e | e | e | e | e | e<;>rw[e]
    ·exact l5 4 (by decide)
    ·exact l5 2 (by decide)
    ·exact l5 3 (by decide)
    ·exact l5 0 (by decide)
    ·exact l5 1 (by decide)
    ·exact lab a la
    ·exact lab b lb
   refine vU (s:={s1 with heap:=h2}) (N:=N) (Z:=Z) (xs:=its.toArray) (ys:=its2.toArray) D low yl (by rw[xl];exact h1000) (I1.ok.hd hcalm) hNs hlt hz st fun h3 tk acc c Ts kp hS hT hp=>?_
   have kp3:∀c o,s1.heap.get? c=some o->h3.get? c=some o:=fun c o e=>kp c o (KC e) (hk c o e);have I3:aM X pins σ H1 {s1 with heap:=h3,toks:=tk}:=I1.kept (t':=tk) kp3
   have fp:∀c,N≤c->jr X pins H1 c∧X.s_0.heap.objs.size≤c:=fun c hc=>⟨I1.fpOk hc (I1.hok.fresh hc),Lh I1.sz hc⟩;have tl:Ts.length=(xs.zip ys).length:=by rw[hT,xl,List.length_zip];omega
   obtain⟨H',I4,sm,oth,at_⟩:=oZ Ts (xs.zip ys) H1 I3 tl hp.nd (fun T hm=>fp T (hp.new T hm).1) fun j T pr e1 e2=>by
    obtain⟨e3,e4⟩:=List.getElem?_zip_eq_some.mp (show(xs.zip ys)[j]?=some (pr.1,pr.2) from e2)
    obtain⟨u,v,hu,hv,pp⟩:=hp.at_ j T e1;obtain⟨u',hu',ru⟩:=rv.get e3;obtain⟨v',hv',rv'⟩:=rv2.get e4;have eu:u=u':=LS (hu.symm.trans (by simpa using hu'))
    have ev:v=v':=LS (hv.symm.trans (by simpa using hv'))
    subst eu ev;exact⟨u,v,ru,rv',pp⟩
   have hSn:h2.objs.size∉Ts:=fun z=>by
    have:=(hp.new _ z).2.2;simp at this
   have hSN:N≤h2.objs.size:=hNs;have hS0:H' h2.objs.size=none:=by rw[oth _ hSn];exact(fp _ hSN).1.1
   have fS:jr X pins H' h2.objs.size:=⟨hS0,(fp _ hSN).1.2⟩
   have tv:∀l:List Addr,b8 (l.map V.ref) (l.map Value.ref):=fun l=>by
    induction l with
    | nil=>exact .nil
    | cons x l ih=>exact .cons rfl ih
   have I5:=Gk (o:=.lst (Ts.map V.ref)) I4 fS (fp _ hSN).2 ⟨by rw[Kv,hT,xl,sizeLine_eq];omega,Ts.map Value.ref,c,tv Ts,by rw[←hp.eq];exact hS⟩
   refine⟨.ref _,_,I5,rfl,q _ _ Ts a9 (by rw[hT,xl]) (fun j T x y e1 e2 e3=>?_) (sm.trans (ah hS0))⟩
   have hne:T≠h2.objs.size:=fun z=>hSn (by rw[←z];exact KA e1)
   rw[ak hne];exact at_ j T (x,y) e1 (List.getElem?_zip_eq_some.mpr ⟨e2,e3⟩)
end XP
namespace Can
open PySem PySem.Spec PyProof.Rows L2 XL
variable{P:Program}{w:World}{K:Frag}{mg:Str->Option Value}{base:Heap}{C CG CF CT CR CY:Addr}
theorem lU:∀(r:List Nat){l:List Nat},l.Nodup->(XS.metN l r).Nodup
 | [],_,h=>h
 | k::r,l,h=>by
  unfold XS.metN
  by_cases e:k∈l
  ·rw[if_pos e];exact lU r h
  ·rw[if_neg e];refine lU r ?_;rw[List.nodup_append];exact⟨h,by simp,fun a ha b hb q=>e (by rw[←Lq.mp hb,←q];exact ha)⟩
theorem y6{ns':List Int}{l:List Nat}(hp:ns'.Perm ((XS.metN [] l).map fun n:Nat=>(n:Int)))(hs:ns'.Pairwise (·≤·)):ns'.map V.int=(l.foldr Vbavai.put []).map nat:=by
 have hnn:∀z∈ns',∃n:Nat,(n:Int)=z∧n∈l:=fun z hz=>by
  obtain⟨n,hn,e⟩:=Ls.mp (hp.mem_iff.mp hz);exact⟨n,e,by simpa using (XS.metN_mem l [] n).mp hn⟩
 have e1:ns'=(ns'.map Int.toNat).map fun n:Nat=>(n:Int):=by
  rw[Lc]
  conv=>lhs;rw[←List.map_id ns']
  refine List.map_congr_left fun z hz=>?_;obtain⟨n,e,_⟩:=hnn z hz;rw[←e];rfl
 have nd:ns'.Nodup:=hp.nodup_iff.mpr (by
  refine List.Pairwise.map _ (fun a b h e=>h (Int.ofNat.inj e)) (lU l List.nodup_nil))
 have lt:ns'.Pairwise (· < ·):=by
  refine List.Pairwise.imp₂ (fun a b h1 h2=>?_) hs nd;omega
 have k2:(ns'.map Int.toNat).Pairwise (· < ·):=by
  rw[List.pairwise_map];refine lt.imp_of_mem fun{a b} ha hb h=>?_;obtain⟨n,e,_⟩:=hnn a ha;obtain⟨m,e',_⟩:=hnn b hb;omega
 have k3:ns'.map Int.toNat=l.foldr Vbavai.put []:=VM.og k2 (VM.iD l) fun x=>by
  rw[VM.gW,Ls]
  constructor
  ·rintro⟨z,hz,rfl⟩;obtain⟨n,e,hn⟩:=hnn z hz;rw[←e];exact hn
  ·intro hx;refine⟨(x:Int),hp.mem_iff.mpr (Ls.mpr ⟨x,(XS.metN_mem l [] x).mpr (.inr hx),rfl⟩),rfl⟩
 rw[e1,k3,Lc];rfl
abbrev uE(H:Hp)(a:Addr)(l:List Nat):Prop:=H a=some (.lst (l.map nat))
inductive kG(CG:Addr)(vs:List V)(H:Hp)(Q:VK)(z3_:XK):Prop
 | mk (a cl lm ln:Addr) (g:Gr) (c:List Nat) (i:Nat):vs=[.ref a,.ref cl,nat i]->nH CG H a lm ln g->il g->uE H cl c->c.length=g.length->(∀x∈c,x < 12)->i < g.length->(∀(H':Hp)(p:Addr),uE H' p (VM.gY g c i)->aD H H'->Q (.ref p) H')->kG CG vs H Q z3_
theorem oo{c:List Nat}{j:Nat}(h:j < c.length):yb (c.map nat) (j:Int)=some (nat (c.getD j 0)):=d9 (by rw[Kw,Kz h,KP,Kz h];rfl)
theorem pG(F:aK K mg "next_classes" gC)(T:j3 mg)(TG:gw K CG):aS P w K mg base C 1 "next_classes" ["graph","classes","node"] (kG CG):=by
 refine F.cal ka fun f cdv A outer s H vs Q E hr h=>?_;obtain⟨a,cl,lm,ln,g,c,i,rfl,G,GO,hc,lc,h12,hi,k⟩:=h;have nd:=ka.nd;obtain⟨dx,hobj⟩:=G.obj;obtain⟨ns,l,hn,hl,hL⟩:=G.list hi;have hm:=KA (VM.aT hi);have h4:=GO.out _ hm
 refine⟨_,ai (aw (aQ (XS.cr_sortSet rfl) rfl T.sorted boot_sorted (a8 (ij (XS.cr_set rfl) rfl T.set boot_set (a8 (du (own:=[("there",3)]) (te:=zj (uB K) (bL 1) (bL 3)) rfl nd (bF (aY aF (aG (pv 0) rfl) (pv 2) (fun _ _=>rfl))) (ba rfl) (fun _ _ _ _ _=>aO (i:=3) nd rfl (Or.inl rfl))
  (fun _ _ _ _ _=>bP) (fun _ _ _ _ _=>aY aF (pv 1) (pv 3) (fun _ _=>rfl))) aa)) aa))),?_⟩
 refine⟨_,rfl,a,CG,dx,_,_,rfl,hobj,TG.cl,TG.nn,rfl,_,rfl,ln,_,_,_,rfl,rfl,aH.of hn,d9 hl,l,rfl,⟨_,aH.of hL⟩,fun D hD=>?_⟩;refine cj (K:=K) (a:=l) (xs:=(nodeAt g i).next.map nat) (fun n H'=>H' D=some (.lst ((((nodeAt g i).next.map fun j=>c.getD j 0).map nat).take n))∧aD H H') ⟨a9,ah hD⟩ (fun i H' _ p=>aH.of (p.2 _ _ hL)) ?_ ?_
 ·rintro n v H' hv ⟨p1,p2⟩;rw[Kw] at hv;obtain⟨m,hmn,rfl⟩:=KF.mp hv;have hmx:m < c.length:=by rw[lc];exact GO.nx _ hm m (KA hmn)
  refine⟨rfl,_,rfl,_,rfl,cl,_,_,_,rfl,rfl,aH.of (p2 _ _ hc),oo hmx,?_⟩;exact bD hD p1 p2 (by rw[Kw,Kw,hmn];rfl) (by rw[Kv,Kv];omega)
 ·rintro H' ⟨p1,p2⟩;rw[Kv,KS (by rw[Kv,Kv];exact KG _)] at p1
  refine⟨D,(nodeAt g i).next.map fun j=>c.getD j 0,rfl,aH.of p1,fun x hx=>?_,by rw[Kv];exact h4,fun S hS=>?_⟩
  ·obtain⟨j,hj,rfl⟩:=Ls.mp hx;have hjx:j < c.length:=by rw[lc];exact GO.nx _ hm j hj
   rw[KP,Kz hjx];exact h12 _ (List.getElem_mem hjx)
  ·refine⟨S,_,rfl,a9,fun ns' p hp hs hpn=>k _ p ?_ ((p2.trans (ah hS)).trans (ah hpn))⟩;show upd _ p _ p=_;rw[a9,y6 hp hs];rfl
section
variable{κ:Type}[BEq κ][LawfulBEq κ]
theorem oR{rows:List κ}{i:Nat}{r:κ}(h:rows[i]?=some r):VM.met [] (rows.take (i+1))=if r∈VM.met [] (rows.take i) then VM.met [] (rows.take i) else VM.met [] (rows.take i)++[r]:=by
 rw[bS h,VM.xm]
end
def yy(l:List Nat):List (di×V):=l.zipIdx.map fun p=>(Sum.inl (p.1:Int),nat p.2)
theorem wJ(l:List Nat):(yy l).length=l.length:=by unfold yy;rw[Kv,List.length_zipIdx]
theorem B5(l:List Nat)(m:Nat):yy (l++[m])=yy l++[(Sum.inl (m:Int),nat l.length)]:=by
 unfold yy;rw[List.zipIdx_append,KO];simp
theorem Al:∀(l:List Nat)(n m:Nat),dR ((l.zipIdx n).map fun p=>((Sum.inl (p.1:Int):di),nat p.2)) (.inl (m:Int))=if m∈l then some (nat (n+l.idxOf m)) else none
 | [],n,m=>rfl
 | a::l,n,m=>by
  rw[List.zipIdx_cons,KR]
  by_cases e:a=m
  ·subst e;rw[cZ rfl,if_pos KJ,List.idxOf_cons];simp
  ·have ne:¬((Sum.inl (a:Int):di)=.inl (m:Int)):=fun z=>e (by injection z with z;omega)
   rw[d5 ne,Al l (n+1) m,List.idxOf_cons,beq_false_of_ne e];have e2:(m∈a::l)↔m∈l:=by rw[List.mem_cons];exact⟨fun z=>z.resolve_left (Ne.symm e),.inr⟩
   by_cases h:m∈l
   ·rw[if_pos h,if_pos (e2.mpr h)];show some (nat (n+1+l.idxOf m))=some (nat (n+(l.idxOf m+1)));rw[show n+1+l.idxOf m=n+(l.idxOf m+1) from by omega]
   ·rw[if_neg h,if_neg (fun z=>h (e2.mp z))]
theorem rN(l:List Nat)(m:Nat):dR (yy l) (.inl (m:Int))=if m∈l then some (nat (l.idxOf m)) else none:=by
 have:=Al l 0 m;rw[Nat.zero_add] at this;exact this
inductive vw(vs:List V)(H:Hp)(Q:VK)(z3_:XK):Prop
 | mk (a:Addr) (ms:List Nat):vs=[.ref a]->uE H a ms->ms.length≤1000->(∀(H':Hp)(p:Addr),uE H' p (VM.i3 ms)->aD H H'->Q (.ref p) H')->vw vs H Q z3_
theorem uL(F:aK K mg "numbered" fZ)(T:j3 mg):aS P w K mg base C 1 "numbered" ["signs"] vw:=by
 refine F.cal iM fun f cdv A outer s H vs Q E hr h=>?_;obtain⟨a,ms,rfl,ha,hl,k⟩:=h;have nd:=iM.nd;have hu:=Af hr
 refine⟨_,ae (aE (i:=1) nd rfl (Or.inr rfl) Cj)
  (ae (gq PassesOwn.leaving rfl (bF (pv 0)) (aO (i:=2) nd rfl (Or.inl rfl))
   (ai (aV (qY (ua hu (pv 2) (pv 1))) (ai (kH hu (pv 1) (pv 2) (aQ AY rfl T.len boot_len (a8 (pv 1) aa)) rfl)) aB)))
  (ai (aw (du (own:=[("sign",2)]) rfl nd (bF (pv 0)) (ba rfl) (fun _ _ _ _ _=>aO (i:=2) nd rfl (Or.inl rfl)) (fun _ _ _ _ _=>bP) (fun _ _ _ _ _=>zY hu (pv 1) (pv 2) (fun _ _=>rfl)))))),?_⟩
 refine fun d hd=>⟨_,rfl,a,rfl,⟨_,aH.of (bj hd ha)⟩,?_⟩;refine mO (K:=K) (a:=a) (xs:=ms.map nat) (fun i σ H'=>∃v2:Option V,σ=[some (.ref a),some (.ref d),v2]∧H' d=some (.dK (yy (VM.met [] (ms.take i))))∧aD H H') ⟨none,rfl,by rw[List.take_zero];exact a9,ah hd⟩ (fun i σ H' _ p=>by obtain⟨_,_,_,s1⟩:=p;exact aH.of (s1 _ _ ha)) ?_ ?_
 ·rintro i v σ H' hv ⟨v2,rfl,h1,s1⟩;rw[Kw] at hv;obtain⟨m,hm,rfl⟩:=KF.mp hv;have ml:=VM.vi (ms.take i) ([]:List Nat);rw[L0,L9] at ml;have hmt:=oR hm;refine⟨_,rfl,_,rfl,d,_,rfl,kR.k (k:=Sum.inl (m:Int)) h1,_,rfl,?_⟩;rw[rN]
  by_cases e:m∈VM.met [] (ms.take i)
  ·rw[if_pos e];refine zR ⟨_,rfl,?_,s1⟩;rw[hmt,if_pos e];exact h1
  ·rw[if_neg e];refine zx ?_;refine⟨_,rfl,d,_,rfl,h1,_,rfl,_,rfl,d,_,rfl,pd.k (k:=Sum.inl (m:Int)) h1 (br (by rw[wJ];omega)),_,rfl,?_,bh s1 hd⟩
   rw[a9,hmt,if_neg e,B5,x6 _ (by rw[rN,if_neg e]),wJ]
 ·rintro σ H' ⟨v2,rfl,h1,s1⟩;rw[Kv,Lo] at h1;have ha':=s1 _ _ ha;refine⟨_,rfl,a,rfl,⟨_,aH.of ha'⟩,fun D hD=>?_⟩;refine cj (K:=K) (a:=a) (xs:=ms.map nat) (fun i H2=>H2 D=some (.lst (((VM.i3 ms).map nat).take i))∧aD H' H2) ⟨a9,ah hD⟩ (fun i H2 _ p=>aH.of (p.2 _ _ ha')) ?_ ?_
  ·rintro i v H2 hv ⟨p1,p2⟩;rw[Kw] at hv;obtain⟨m,hm,rfl⟩:=KF.mp hv;have hin:m∈VM.met [] ms:=(VM.kI ms [] m).mpr (.inr (KA hm));refine⟨rfl,_,rfl,_,rfl,d,nat ((VM.met [] ms).idxOf m),rfl,?_,?_⟩
   ·have:=kR.k (k:=Sum.inl (m:Int)) (p2 _ _ h1);rw[rN,if_pos hin] at this;exact this
   ·refine bD hD p1 p2 ?_ (by rw[Kv,VM.ir];omega)
    unfold VM.i3;rw[Kw,Kw,hm];rfl
  ·rintro H2 ⟨p1,p2⟩;refine k H2 D ?_ (s1.trans p2);rw[Kv,KS (by rw[Kv,VM.ir];exact KG _)] at p1
   exact p1
def gX(p:Nat×List Nat):XN.PK:=((p.1:Int),p.2.map fun n:Nat=>(n:Int))
theorem Eb{p q:Nat×List Nat}(h:gX p=gX q):p=q:=by
 unfold gX at h;injection h with h1 h2
 refine Prod.ext (by omega) ?_
 have:=congrArg (List.map Int.toNat) h2;rw[Lc,Lc] at this;have e:(Int.toNat∘fun n:Nat=>(n:Int))=id:=funext fun n=>rfl
 rwa [e,List.map_id,List.map_id] at this
def vX(l:List ((Nat×List Nat)×Addr)):List XN.NK:=l.zipIdx.map fun p=>(gX p.1.1,p.1.2,nat p.2)
theorem wK(l:List ((Nat×List Nat)×Addr)):(vX l).length=l.length:=by unfold vX;rw[Kv,List.length_zipIdx]
theorem Bi(l:List ((Nat×List Nat)×Addr))(m:(Nat×List Nat)×Addr):vX (l++[m])=vX l++[(gX m.1,m.2,nat l.length)]:=by
 unfold vX;rw[List.zipIdx_append,KO];simp
theorem Ak:∀(l:List ((Nat×List Nat)×Addr))(n:Nat)(m:Nat×List Nat),XN.getN ((l.zipIdx n).map fun p=>((gX p.1.1,p.1.2,nat p.2):XN.NK)) (gX m)=if m∈l.map (·.1) then some (nat (n+(l.map (·.1)).idxOf m)) else none
 | [],n,m=>rfl
 | a::l,n,m=>by
  rw[List.zipIdx_cons,KR,KR]
  by_cases e:a.1=m
  ·subst e;rw[if_pos KJ,List.idxOf_cons];simp[XN.getN,List.find?_cons]
  ·have ne:¬(gX a.1=gX m):=fun z=>e (Eb z);have g:XN.getN ((gX a.1,a.2,nat n)::(l.zipIdx (n+1)).map fun p=>((gX p.1.1,p.1.2,nat p.2):XN.NK)) (gX m)=XN.getN ((l.zipIdx (n+1)).map fun p=>((gX p.1.1,p.1.2,nat p.2):XN.NK)) (gX m):=by simp[XN.getN,List.find?_cons,ne]
   rw[g,Ak l (n+1) m,List.idxOf_cons,beq_false_of_ne e];have e2:(m∈a.1::l.map (·.1))↔m∈l.map (·.1):=by rw[List.mem_cons];exact⟨fun z=>z.resolve_left (Ne.symm e),.inr⟩
   by_cases h:m∈l.map (·.1)
   ·rw[if_pos h,if_pos (e2.mpr h)];show some (nat (n+1+(l.map (·.1)).idxOf m))=some (nat (n+((l.map (·.1)).idxOf m+1)));rw[show n+1+(l.map (·.1)).idxOf m=n+((l.map (·.1)).idxOf m+1) from by omega]
   ·rw[if_neg h,if_neg (fun z=>h (e2.mp z))]
theorem qd(l:List ((Nat×List Nat)×Addr))(m:Nat×List Nat):XN.getN (vX l) (gX m)=if m∈l.map (·.1) then some (nat ((l.map (·.1)).idxOf m)) else none:=by
 have:=Ak l 0 m;rw[Nat.zero_add] at this;exact this
inductive uD(vs:List V)(H:Hp)(Q:VK)(z3_:XK):Prop
 | mk (a:Addr) (Ts:List Addr) (ps:List (Nat×List Nat)):vs=[.ref a]->H a=some (.lst (Ts.map V.ref))->Ts.length=ps.length->ps.length≤1000->(∀(j:Nat)(T:Addr)(p:Nat×List Nat),Ts[j]?=some T->ps[j]?=some p->XN.PKAt H (gX p) T)->(∀(H':Hp)(p:Addr),uE H' p (VM.i3 ps)->aD H H'->Q (.ref p) H')->uD vs H Q z3_
theorem PKAt.same{H H':Hp}{k:XN.PK}{a:Addr}(h:XN.PKAt H k a)(s:aD H H'):XN.PKAt H' k a:=by
 obtain⟨b,h1,h2⟩:=h;exact⟨b,s _ _ h1,s _ _ h2⟩
theorem vS(F:aK K mg "numbered" fZ)(T:j3 mg):aS P w K mg base C 1 "numbered" ["signs"] uD:=by
 refine F.cal iM fun f cdv A outer s H vs Q E hr h=>?_;obtain⟨a,Ts,ps,rfl,ha,hT,hl,hk,k⟩:=h;have nd:=iM.nd;have hu:(A.deeper (envOfC "numbered" (ao fZ) s.heap.objs.size f cdv)).units+2 < cLine:=LI (Nat.add_le_add_left (by decide:2≤64) _) hr.units
 refine⟨_,ae (aE (i:=1) nd rfl (Or.inr rfl) XN.pe_nnew)
  (ae (gq PassesOwn.leaving rfl (bF (pv 0)) (aO (i:=2) nd rfl (Or.inl rfl))
   (ai (aV (qY (XN.pc_nnotin hu (pv 2) (pv 1))) (ai (XN.ps_nput hu (pv 1) (pv 2) (aQ XN.cr_lenN rfl T.len boot_len (a8 (pv 1) aa)) rfl)) aB)))
  (ai (aw (du (own:=[("sign",2)]) (te:=XN.tNGet P w (bL 1) (bL 2)) rfl nd (bF (pv 0)) (ba rfl) (fun _ _ _ _ _=>aO (i:=2) nd rfl (Or.inl rfl)) (fun _ _ _ _ _=>bP) (fun _ _ _ _ _=>XN.pe_nget hu (pv 1) (pv 2) (fun _ _=>rfl)))))),?_⟩
 refine fun d hd=>⟨_,rfl,a,rfl,⟨_,aH.of (bj hd ha)⟩,?_⟩
 let KI:Hp->List ((Nat×List Nat)×Addr)->Prop:=fun H' l=>∀m∈l,XN.PKAt H' (gX m.1) m.2
 have keys:∀{H':Hp}{l:List ((Nat×List Nat)×Addr)},KI H' l->XN.KeysIn H' (vX l):=fun{H' l} h p hp=>by
  unfold vX at hp;obtain⟨⟨m,n⟩,hm,rfl⟩:=Ls.mp hp;obtain⟨_,_,hmn⟩:=List.mem_zipIdx hm;exact h m (by rw[hmn];exact List.getElem_mem _)
 refine mO (K:=K) (a:=a) (xs:=Ts.map V.ref) (fun i σ H'=>∃(v2:Option V)(l:List ((Nat×List Nat)×Addr)),σ=[some (.ref a),some (.ref d),v2]∧H' d=some (XN.DN P w d (vX l))∧l.map (·.1)=VM.met [] (ps.take i)∧KI H l∧aD H H') ⟨none,[],rfl,a9,by rw[List.take_zero];rfl,fun m hm=>(by cases hm),ah hd⟩ (fun i σ H' _ p=>by obtain⟨_,_,_,_,_,_,s1⟩:=p;exact aH.of (s1 _ _ ha)) ?_ ?_
 ·rintro i v σ H' hv ⟨v2,l,rfl,h1,hmet,hki,s1⟩;rw[Kw] at hv;obtain⟨Tp,hTp,rfl⟩:=KF.mp hv;have hi:i < ps.length:=by rw[←hT];exact(KQ.mp hTp).1
  have hm:ps[i]?=some ps[i]:=Kz hi;have hpk:=hk i Tp _ hTp hm;have ml:=VM.vi (ps.take i) ([]:List (Nat×List Nat));rw[L0,L9,←hmet,Kv] at ml;have hmt:=oR hm;have ki':KI H' l:=fun m z=>PKAt.same (hki m z) s1;refine⟨_,rfl,_,rfl,d,_,gX ps[i],Tp,rfl,rfl,h1,keys ki',PKAt.same hpk s1,_,rfl,?_⟩;rw[qd,hmet]
  by_cases e:ps[i]∈VM.met [] (ps.take i)
  ·rw[if_pos e];refine zR ⟨_,l,rfl,h1,?_,hki,s1⟩;rw[hmt,if_pos e];exact hmet
  ·rw[if_neg e];refine zx ?_;refine⟨_,rfl,d,_,rfl,h1,keys ki',_,rfl,_,rfl,d,_,gX ps[i],Tp,rfl,rfl,h1,keys ki',PKAt.same hpk s1,by rw[qd,hmet,if_neg e],br (by rw[wK];omega),_,l++[(ps[i],Tp)],rfl,?_,?_,?_,bh s1 hd⟩
   ·rw[a9,Bi,wK];rfl
   ·rw[KO,hmet,hmt,if_neg e];rfl
   ·intro m z;rcases Lb.mp z with z | z
    ·exact hki m z
    ·rw[Lq.mp z];exact hpk
 ·rintro σ H' ⟨v2,l,rfl,h1,hmet,hki,s1⟩;rw[Kv,hT,Lo] at hmet;have ha':=s1 _ _ ha;refine⟨_,rfl,a,rfl,⟨_,aH.of ha'⟩,fun D hD=>?_⟩;refine cj (K:=K) (a:=a) (xs:=Ts.map V.ref) (fun i H2=>H2 D=some (.lst (((VM.i3 ps).map nat).take i))∧aD H' H2) ⟨a9,ah hD⟩ (fun i H2 _ p=>aH.of (p.2 _ _ ha')) ?_ ?_
  ·rintro i v H2 hv ⟨p1,p2⟩;rw[Kw] at hv;obtain⟨Tp,hTp,rfl⟩:=KF.mp hv;have hi:i < ps.length:=by rw[←hT];exact(KQ.mp hTp).1
   have hm:ps[i]?=some ps[i]:=Kz hi;have hin:ps[i]∈VM.met [] ps:=(VM.kI ps [] _).mpr (.inr (KA hm));have s12:=s1.trans p2;refine⟨rfl,_,rfl,_,rfl,d,_,gX ps[i],Tp,nat ((VM.met [] ps).idxOf ps[i]),rfl,rfl,p2 _ _ h1,keys (fun m z=>PKAt.same (hki m z) s12),PKAt.same (hk i Tp _ hTp hm) s12,by rw[qd,hmet,if_pos hin],?_⟩
   refine bD hD p1 p2 ?_ (by rw[Kv,VM.ir];omega)
   unfold VM.i3;rw[Kw,Kw,hm];rfl
  ·rintro H2 ⟨p1,p2⟩;refine k H2 D ?_ (s1.trans p2);rw[Kv,hT,KS (by rw[Kv,VM.ir];exact KG _)] at p1
   exact p1
def HG(K:Frag):List V->Hp->VK->Prop:=fun xs H Q=>∃p ys,xs=[.ref p]∧((aH K H p ys∧∀l,H l=none->Q (.ref l) (upd H l (.tup ys)))∨(eB K H p ys∧Q (.ref p) H))
inductive uQ(CG:Addr)(vs:List V)(H:Hp)(Q:VK)(z3_:XK):Prop
 | mk (a cl lm ln:Addr) (g:Gr) (c:List Nat):vs=[.ref a,.ref cl]->nH CG H a lm ln g->il g->uE H cl c->c.length=g.length->(∀x∈c,x < 12)->(∀(H':Hp)(p:Addr),uE H' p (VM.i3 (VM.kX g c))->aD H H'->Q (.ref p) H')->uQ CG vs H Q z3_
theorem C1{g:Gr}{c:List Nat}{j:Nat}(h:j < g.length):(VM.kX g c)[j]?=some (c.getD j 0,VM.gY g c j):=by
 unfold VM.kX;rw[Kw,VM.kz h];rfl
theorem ug(g:Gr)(c:List Nat):(VM.kX g c).length=g.length:=by unfold VM.kX;rw[Kv,VM.eV]
theorem Dt(F:aK K mg "finer" vN)(T:j3 mg)(cN:aS P w K mg base C 1 "next_classes" ["graph","classes","node"] (kG CG))(cM:aS P w K mg base C 1 "numbered" ["signs"] uD):aS P w K mg base C 2 "finer" ["graph","classes"] (uQ CG):=by
 refine F.cal (k:=1) AH fun f cdv A outer s H vs Q E hr h=>?_;obtain⟨a,cl,lm,ln,g,c,rfl,G,GO,hc,lc,h12,k⟩:=h;have nd:=AH.nd;have g12:=GO.len
 refine⟨_,ae (mC (i:=2) (own:=[("node",3)]) (te:=Jb (HG K) (bZ (jj (kG CG) [] EF (bZ (bL 0) (bZ (bL 1) (bZ (bL 3) gP)))) gP)) rfl nd rfl rfl (pK rfl rfl rfl rfl) (ip rfl T.range (a8 (aQ aU rfl T.len boot_len (a8 (pv 1) aa)) aa)) (ba rfl) (fun _ _ _ _ _=>aO (i:=3) nd rfl (Or.inl rfl)) (fun _ _ _ _ _=>bP)
   (fun _ _ _ _ _=>ij sR rfl T.tuple (by decide +kernel:bootBuiltins "tuple"=some (.type "tuple")) (a8 (aj cN hr rfl ay (a8 (pv 0) (a8 (pv 1) (a8 (pv 3) aa)))) aa)))
  (ai (aw (aj cM hr rfl ay (a8 (XP.pe_listzip rfl rfl T.list rfl T.zip (a8 (pv 1) (a8 (pv 2) aa))) aa)))),?_⟩
 refine⟨_,rfl,cl,_,rfl,.inl (aH.of hc),_,rfl,by rw[Kv];omega,by rw[Kv];omega,fun D hD=>?_⟩
 rw[Lk,Kv,lc];refine wW (n:=g.length) (fun i H'=>∃As:List Addr,H' D=some (.lst (As.map V.ref))∧As.length=i∧(∀(j:Nat)(t:Addr),As[j]?=some t->H' t=some (.tup ((VM.gY g c j).map nat)))∧aD H H') ⟨[],a9,rfl,fun j t e=>by simp at e,ah hD⟩ ?_ ?_
 ·rintro i H' hi ⟨As,p1,pl,pa,p2⟩;refine⟨rfl,_,rfl,_,rfl,_,rfl,a,cl,lm,ln,g,c,i,?_,G.same p2,GO,p2 _ _ hc,lc,h12,hi,fun H2 q b2 s2=>?_⟩
  ·show [V.ref a,V.ref cl,V.int (0+(i:Int))]=_;rw[Int.zero_add]
  ·refine⟨q,_,rfl,.inl ⟨aH.of b2,fun t ht=>?_⟩⟩;have s3:=s2.trans (ah (o:=.tup ((VM.gY g c i).map nat)) ht);have hD3:=s3 _ _ p1;refine⟨_,hD3,br (by rw[Kv];omega),As++[t],by rw[a9,KO];rfl,by rw[Ky,pl];rfl,fun j t' e=>?_,bh (p2.trans s3) hD⟩
   have h9:upd H2 t (.tup ((VM.gY g c i).map nat)) t'=some (.tup ((VM.gY g c j).map nat)):=by
    rcases Nat.lt_or_ge j As.length with z | z
    ·rw[Lf z] at e;exact s3 _ _ (pa j t' e)
    ·rw[Le z] at e
     have e0:j - As.length=0:=by
      rcases Nat.eq_zero_or_pos (j - As.length) with y | y
      ·exact y
      ·rw[L8 (by rw[KY];exact y)] at e;cases e
     rw[e0] at e;cases e;rw[show j=i from by omega]
     exact a9
   rw[ak (cK h9 hD3 (by intro z;cases z))]
   exact h9
 ·rintro H' ⟨As,p1,pl,pa,p2⟩;refine⟨_,rfl,_,rfl,cl,D,_,_,rfl,aH.of (p2 _ _ hc),aH.of p1,by rw[Kv,Kv,pl,lc],by rw[Kv];omega,fun H2 p Ts hp hT hat s2=>?_⟩
  rw[Kv,lc] at hT;refine⟨p,Ts,VM.kX g c,rfl,hp,by rw[hT,ug],by rw[ug];omega,fun j t pr e1 e2=>?_,fun H3 q b3 s3=>k H3 q b3 ((p2.trans s2).trans s3)⟩
  have hj:j < g.length:=by rw[←hT];exact(KQ.mp e1).1
  rw[C1 hj] at e2;cases e2;have hAj:As[j]?=some (As[j]'(by omega)):=Kz _
  have hcj:c[j]?=some (c.getD j 0):=by rw[KP,Kz (by omega)];rfl
  refine⟨As[j]'(by omega),hat j t _ _ e1 (by rw[Kw,hcj];rfl) (by rw[Kw,hAj];rfl),?_⟩
  rw[s2 _ _ (pa j _ hAj)];unfold gX;rw[Lc];rfl
structure vY(H:Hp)(r:Addr)(g:Gr)(n:Nat):Prop where
 ex:∃rs:List Addr,H r=some (.lst (rs.map V.ref))∧rs.length=n∧∀(k:Nat)(p:Addr),rs[k]?=some p->uE H p (Vbavai.classes g k)
theorem vY.same{H H':Hp}{r:Addr}{g:Gr}{n:Nat}(h:vY H r g n)(s:aD H H'):vY H' r g n:=by
 obtain⟨rs,h1,h2,h3⟩:=h.ex;exact⟨rs,s _ _ h1,h2,fun k p e=>s _ _ (h3 k p e)⟩
inductive nE(CG:Addr)(vs:List V)(H:Hp)(Q:VK)(z3_:XK):Prop
 | mk (a lm ln:Addr) (g:Gr):vs=[.ref a]->nH CG H a lm ln g->il g->(∀(H':Hp)(r:Addr),vY H' r g (g.length+1)->aD H H'->Q (.ref r) H')->nE CG vs H Q z3_
inductive vZ(CG:Addr)(vs:List V)(H:Hp)(Q:VK)(z3_:XK):Prop
 | mk (a lm ln:Addr) (g:Gr):vs=[.ref a]->nH CG H a lm ln g->il g->(∀(H':Hp)(p:Addr),uE H' p (Vbavai.classes g g.length)->aD H H'->Q (.ref p) H')->vZ CG vs H Q z3_
def JE:Option Nat->V
 | none=>.non
 | some k=>nat k
inductive fX(vs:List V)(H:Hp)(Q:VK)(z3_:XK):Prop
 | mk (r:Addr) (g:Gr) (a b:Nat):vs=[.ref r,nat a,nat b]->vY H r g (g.length+1)->a < g.length->b < g.length->(∀H',aD H H'->Q (JE (Vbavai.parts g a b)) H')->fX vs H Q z3_
theorem Fh{H:Hp}{p r:Addr}{x:List Nat}{rs:List Addr}(h1:uE H p x)(h2:H r=some (.lst (rs.map V.ref)))(hx:rs≠[]):p≠r:=cK h1 h2 (fun e=>by
 injection e with e
 cases rs with
 | nil=>exact hx rfl
 | cons b rs=>cases x with
  | nil=>simp at e
  | cons a x=>simp at e)
theorem kU{g:Gr}(GO:il g)(k:Nat):∀x∈Vbavai.classes g k,x < 12:=fun x hx=>KU (VM.zh hx) GO.len
theorem DP{g:Gr}{a b:Nat}(h:∀k,k < g.length+1->(Vbavai.classes g k).getD a 0=(Vbavai.classes g k).getD b 0):Vbavai.parts g a b=none:=by
 unfold Vbavai.parts;rw[LF];intro k hk;have:=h k (List.mem_range.mp hk);simpa using this
theorem vH(F:aK K mg "rounds_of" jE)(T:j3 mg)(TG:gw K CG)(cI:aS P w K mg base C 1 "numbered" ["signs"] vw)(cF:aS P w K mg base C 2 "finer" ["graph","classes"] (uQ CG)):aS P w K mg base C 3 "rounds_of" ["graph"] (nE CG):=by
 refine F.cal (k:=2) oG fun f cdv A outer s H vs Q E hr h=>?_;obtain⟨a,lm,ln,g,rfl,G,GO,k⟩:=h;have nd:=oG.nd;have g12:=GO.len;obtain⟨⟨dx,hobj⟩,hm,_⟩:=id G
 refine⟨_,ae (aE (i:=1) nd rfl (Or.inl rfl) (aN (a8 (aj cI (hr.mono (by decide)) rfl ay (a8 (aG (pv 0) rfl) aa)) aa)))
  (ae (gq PassesOwn.leaving rfl (ip rfl T.range (a8 (aQ aU rfl T.len boot_len (a8 (aG (pv 0) rfl) aa)) aa)) (aO (i:=2) nd rfl (Or.inl rfl))
   (ai (bH (fO PySem.F.plainAttrs_list PySem.F.slot_list_append PySem.F.type_list_append ck (pv 1) (a8 (aj cF hr rfl ay (a8 (pv 0) (a8 (aY aF (pv 1) (bW bw aA) (fun _ _=>rfl)) aa))) aa)))))
  (ai (aw (pv 1)))),?_⟩
 refine⟨_,rfl,a,CG,dx,_,_,rfl,hobj,TG.cl,TG.nm,rfl,lm,g.map (·.marks),rfl,by show H lm=_;rw[hm,Lc];rfl,by rw[Kv];omega,fun H1 c0 b0 s0=>?_⟩
 refine⟨fM,fun R hR=>?_⟩;have s1:=s0.trans (ah (o:=.lst [V.ref c0]) hR);have hRH:H R=none:=s0.free hR;refine⟨_,rfl,a,CG,dx,_,_,rfl,s1 _ _ hobj,TG.cl,TG.nm,rfl,_,_,rfl,.inl (aH.of (s1 _ _ hm)),_,rfl,by rw[Kv];omega,by rw[Kv];omega,?_⟩
 rw[Lk,Kv]
 refine kL (n:=g.length) (fun i σ H'=>∃(v2:Option V)(rs:List Addr),σ=[some (.ref a),some (.ref R),v2]∧aD H H'∧H' R=some (.lst (rs.map V.ref))∧rs.length=i+1∧∀(j:Nat)(p:Addr),rs[j]?=some p->uE H' p (Vbavai.classes g j))
  ⟨none,[c0],rfl,s1,a9,rfl,fun j p e=>?_⟩ ?_ ?_
 ·cases j with
  | zero =>
   cases e;show _=some (HO.lst ((Vbavai.classes g 0).map nat));rw[VM.lj];exact bj hR b0
  | succ j=>simp at e
 ·rintro i σ H' hi ⟨v2,rs,rfl,s2,hRr,hlen,hrs⟩
  obtain⟨rs0,rk,rfl⟩:∃l b,rs=l++[b]:=by
   rcases List.eq_nil_or_concat rs with e | ⟨l,b,e⟩
   ·rw[e] at hlen;simp at hlen
   ·exact⟨l,b,by rw[e];simp⟩
  have hl0:rs0.length=i:=by rw[Ky,KY] at hlen;omega
  have hrk:uE H' rk (Vbavai.classes g i):=hrs i rk (by rw[←hl0];simp)
  have lst:yb ((rs0++[rk]).map V.ref) (-1)=some (.ref rk):=by rw[KO];exact jM _ _
  refine⟨_,rfl,.inl ⟨rfl,_,aH.of hRr⟩,_,rfl,_,rfl,_,rfl,R,_,_,_,rfl,rfl,aH.of hRr,lst,a,rk,lm,ln,g,Vbavai.classes g i,rfl,G.same s2,GO,hrk,VM.eh g i,kU GO i,fun H2 p2 b2 s3=>?_⟩;refine⟨R,_,_,rfl,rfl,s3 _ _ hRr,br (by rw[Kv];omega),_,(rs0++[rk])++[p2],rfl,bh (s2.trans s3) hRH,?_,?_,fun j r e=>?_⟩
  ·rw[a9]
   congr 2
   rw[KO (l₁:=rs0++[rk])];rfl
  ·rw[Ky,hlen];rfl
  ·have b3:uE H2 r (Vbavai.classes g j):=by
    rcases Nat.lt_or_ge j (rs0++[rk]).length with q | q
    ·rw[Lf q] at e;exact s3 _ _ (hrs j r e)
    ·rw[Le q] at e
     have e0:j - (rs0++[rk]).length=0:=by
      rcases Nat.eq_zero_or_pos (j - (rs0++[rk]).length) with z | z
      ·exact z
      ·rw[L8 (by rw[KY];exact z)] at e;cases e
     rw[e0] at e;cases e;rw[show j=i+1 from by omega,VM.lg]
     exact b2
   show upd H2 R _ r=_;rw[ak (Fh b3 (s3 _ _ hRr) (by simp))]
   exact b3
 ·rintro σ H' ⟨v2,rs,rfl,s2,hRr,hlen,hrs⟩;exact⟨_,rfl,k H' R ⟨rs,hRr,hlen,hrs⟩ s2⟩
theorem pE(F:aK K mg "last_classes" gm)(cR:aS P w K mg base C 3 "rounds_of" ["graph"] (nE CG)):aS P w K mg base C 4 "last_classes" ["graph"] (vZ CG):=by
 refine F.cal (k:=3) sh fun f cdv A outer s H vs Q E hr h=>?_;obtain⟨a,lm,ln,g,rfl,G,GO,k⟩:=h;refine⟨_,ai (aw (aY aF (aj cR hr rfl ay (a8 (pv 0) aa)) (bW bw aA) (fun _ _=>rfl))),?_⟩;refine⟨_,rfl,a,lm,ln,g,rfl,G,GO,fun H1 r R1 s1=>?_⟩;obtain⟨rs,hRr,hlen,hrs⟩:=R1.ex
 obtain⟨rs0,rk,rfl⟩:∃l b,rs=l++[b]:=by
  rcases List.eq_nil_or_concat rs with e | ⟨l,b,e⟩
  ·rw[e] at hlen;simp at hlen
  ·exact⟨l,b,by rw[e];simp⟩
 have hl0:rs0.length=g.length:=by rw[Ky,KY] at hlen;omega
 exact⟨_,rfl,r,_,_,_,rfl,rfl,aH.of hRr,(by rw[KO];exact jM _ _),k H1 rk (hrs g.length rk (by rw[←hl0];simp)) s1⟩
theorem ou(F:aK K mg "parting_round" fC)(T:j3 mg):aS P w K mg base C 1 "parting_round" ["rounds","first","second"] fX:=by
 refine F.cal jk fun f cdv A outer s H vs Q E hr h=>?_;obtain⟨r,g,a,b,rfl,R,ha,hb,k⟩:=h;have nd:=jk.nd;obtain⟨rs,hRr,hlen,hrs⟩:=R.ex
 refine⟨_,ae (gq PassesOwn.leaving rfl (AQ rfl T.enumerate (a8 (pv 0) aa)) (m5 rfl (cu (aO (i:=3) nd rfl (Or.inl rfl)) (cu (aO (i:=4) nd rfl (Or.inl rfl)) iP)))
   (ai (aV (aI qI (aY aF (pv 4) (pv 1) (fun _ _=>rfl)) (aY aF (pv 4) (pv 2) (fun _ _=>rfl)) (aR _)) (ai (aw (pv 3))) aB)))
  (ai (aw nY)),?_⟩
 refine⟨_,rfl,r,_,rfl,aH.of hRr,?_⟩;refine DR (K:=K) (a:=r) (xs:=rs.map V.ref) (fun i σ H'=>∃v3 v4:Option V,σ=[some (.ref r),some (nat a),some (nat b),v3,v4]∧aD H H'∧∀j,j < i->(Vbavai.classes g j).getD a 0=(Vbavai.classes g j).getD b 0) ⟨none,none,rfl,eU,fun j hj=>absurd hj (Nat.not_lt_zero _)⟩ (fun i σ H' p=>by obtain⟨_,_,_,s1,_⟩:=p;exact aH.of (s1 _ _ hRr)) ?_ ?_
 ·rintro i v σ H' Tp hv ⟨v3,v4,rfl,s1,hbef⟩ hT;rw[Kw] at hv;obtain⟨p,hp,rfl⟩:=KF.mp hv;have hc:=s1 _ _ (hrs i p hp);have hi:i < g.length+1:=by rw[←hlen];exact(KQ.mp hp).1
  have cl:=VM.eh g i;refine⟨Tp,_,rfl,eB.of a9,rfl,_,_,rfl,_,_,rfl,rfl,?_⟩;have s2:=fw (o:=.tup [V.int ((i:Nat):Int),V.ref p]) hT s1;refine⟨_,rfl,_,rfl,p,_,_,_,rfl,rfl,aH.of (bj hT hc),oo (by omega),_,rfl,_,rfl,p,_,_,_,rfl,rfl,aH.of (bj hT hc),oo (by omega),rfl,_,rfl,?_⟩
  refine de (fun h=>?_) (fun h=>?_)
  ·have ne:(Vbavai.classes g i).getD a 0≠(Vbavai.classes g i).getD b 0:=fun e=>by rw[e] at h;simp at h
   refine⟨_,rfl,?_⟩;have:=k _ s2;rw[VM.CN (k:=i) ⟨ne,hbef⟩ (by omega)] at this
   exact this
  ·refine⟨_,_,rfl,s2,fun j hj=>?_⟩;rcases Nat.lt_or_ge j i with q | q
   ·exact hbef j q
   ·rw[show j=i from by omega]
    apply Classical.byContradiction;intro ne;apply h;have:¬(nat ((Vbavai.classes g i).getD a 0)=nat ((Vbavai.classes g i).getD b 0)):=fun e=>ne (by injection e with e;omega)
    rw[Ln this];rfl
 ·rintro σ H' ⟨v3,v4,rfl,s1,hbef⟩;rw[Kv,hlen] at hbef;have:=k H' s1;rw[DP hbef] at this;exact this
inductive mh(CG:Addr)(vs:List V)(H:Hp)(Q:VK)(z3_:XK):Prop
 | mk (ga cl lm ln:Addr) (g:Gr) (c:List Nat) (a b:Nat):vs=[.ref ga,.ref cl,nat a,nat b]->nH CG H ga lm ln g->il g->uE H cl c->c.length=g.length->a < g.length->b < g.length->(∀(H':Hp)(p:Addr),uE H' p (VM.oJ g c a b)->aD H H'->Q (.ref p) H')->mh CG vs H Q z3_
inductive ER(CF:Addr)(vs:List V)(H:Hp)(Q:VK)(z3_:XK):Prop
 | mk (x y m:Nat):vs=[nat x,nat y]->x < 16->y < 16->VM.Ap x y=some m->(∀(H':Hp)(p:Addr),bx CF H' (if x.testBit m=true then .mark m else .not (.mark m)) p->aD H H'->Q (.ref p) H')->ER CF vs H Q z3_
theorem Cg{c l:List Nat}{x:Nat}:nI (nat x) ((l.map fun j=>c.getD j 0).map nat)=l.any fun j=>x==c.getD j 0:=by
 have:=om (l:=l.map fun j=>c.getD j 0) (b:=(x:Int)) (by omega)
 rw[Lk] at this;rw[show nat x=V.int (x:Int) from rfl,this,List.contains_eq_any_beq,List.any_map]
 rfl
def yR:List Str:=[fQ 0,fQ 1,fQ 2,fQ 3]
theorem qt(F:aK K mg "nexts_alone" i4)(TG:gw K CG):aS P w K mg base C 1 "nexts_alone" ["graph","classes","node","other"] (mh CG):=by
 refine F.cal kW fun f cdv A outer s H vs Q E hr h=>?_;obtain⟨ga,cl,lm,ln,g,c,a,b,rfl,G,GO,hc,lc,ha,hb,k⟩:=h;have nd:=kW.nd;obtain⟨dx,hobj⟩:=G.obj;obtain⟨ns,la,hn,hla,hLa⟩:=G.list ha;obtain⟨ns2,lb,hn2,hlb,hLb⟩:=G.list hb;have hma:=KA (VM.aT ha);have hmb:=KA (VM.aT hb);have h4a:=GO.out _ hma;have h4b:=GO.out _ hmb
 refine⟨_,ae (aE (i:=4) nd rfl (Or.inr rfl) (du (own:=[("there",5)]) (te:=zj (uB K) (bL 1) (bL 5)) rfl nd (bF (aY aF (aG (pv 0) rfl) (pv 3) (fun _ _=>rfl))) (ba rfl) (fun _ _ _ _ _=>aO (i:=5) nd rfl (Or.inl rfl)) (fun _ _ _ _ _=>bP) (fun _ _ _ _ _=>aY aF (pv 1) (pv 5) (fun _ _=>rfl))))
  (ai (aw (du (own:=[("there",5)]) (tt:=En (zj (Je K true) (zj (uB K) (bL 1) (bL 5)) (bL 4))) rfl nd (bF (aY aF (aG (pv 0) rfl) (pv 2) (fun _ _=>rfl))) (ba rfl) (fun _ _ _ _ _=>aO (i:=5) nd rfl (Or.inl rfl))
   (fun _ _ _ _ _=>iN (aI fP (aY aF (pv 1) (pv 5) (fun _ _=>rfl)) (pv 4) rfl)) (fun _ _ _ _ _=>pv 5)))),?_⟩
 refine⟨_,rfl,ga,CG,dx,_,_,rfl,hobj,TG.cl,TG.nn,rfl,_,rfl,ln,_,_,_,rfl,rfl,aH.of hn2,d9 hlb,lb,rfl,⟨_,aH.of hLb⟩,fun D hD=>?_⟩;refine cj (K:=K) (a:=lb) (xs:=(nodeAt g b).next.map nat) (fun n H'=>H' D=some (.lst ((((nodeAt g b).next.map fun j=>c.getD j 0).map nat).take n))∧aD H H') ⟨a9,ah hD⟩ (fun i H' _ p=>aH.of (p.2 _ _ hLb)) ?_ ?_
 ·rintro n v H' hv ⟨p1,p2⟩;rw[Kw] at hv;obtain⟨m,hmn,rfl⟩:=KF.mp hv;have hmx:m < c.length:=by rw[lc];exact GO.nx _ hmb m (KA hmn)
  refine⟨rfl,_,rfl,_,rfl,cl,_,_,_,rfl,rfl,aH.of (p2 _ _ hc),oo hmx,?_⟩;exact bD hD p1 p2 (by rw[Kw,Kw,hmn];rfl) (by rw[Kv,Kv];omega)
 ·rintro H' ⟨p1,p2⟩;rw[Kv,KS (by rw[Kv,Kv];exact KG _)] at p1
  refine⟨_,rfl,ga,CG,dx,_,_,rfl,p2 _ _ hobj,TG.cl,TG.nn,rfl,_,rfl,ln,_,_,_,rfl,rfl,aH.of (p2 _ _ hn),d9 hla,la,rfl,⟨_,aH.of (p2 _ _ hLa)⟩,fun D2 hD2=>?_⟩;refine cj (K:=K) (a:=la) (xs:=(nodeAt g a).next.map nat) (fun n H2=>H2 D2=some (.lst ((((nodeAt g a).next.take n).filter fun i=>!((nodeAt g b).next.any fun j=>c.getD i 0==c.getD j 0)).map nat))∧aD H' H2) ⟨a9,ah hD2⟩ (fun i H2 _ p=>aH.of (p.2 _ _ (p2 _ _ hLa))) ?_ ?_
  ·rintro n v H2 hv ⟨q1,q2⟩;rw[Kw] at hv;obtain⟨m,hmn,rfl⟩:=KF.mp hv;have hmx:m < c.length:=by rw[lc];exact GO.nx _ hma m (KA hmn)
   refine⟨rfl,_,rfl,_,rfl,cl,_,_,_,rfl,rfl,aH.of (q2 _ _ (p2 _ _ hc)),oo hmx,_,rfl,D,_,rfl,.inl (aH.of (q2 _ _ p1)),rfl,iB,_,rfl,?_⟩;rw[if_pos rfl,Cg,bS hmn,LM,LK,LL];cases q:(!((nodeAt g b).next.any fun j=>c.getD m 0==c.getD j 0)) with
   | true =>
    refine zx ⟨_,rfl,_,q1,?_,?_,bh q2 hD2⟩
    ·rw[Kv];refine br (LI (Lg ..) ?_);rw[L9];omega
    ·rw[a9,if_pos rfl,KO];rfl
   | false =>
    refine zR ⟨?_,q2⟩;rw[if_neg KM,Lp];exact q1
  ·rintro H2 ⟨q1,q2⟩;rw[Kv,Lo] at q1;exact k H2 D2 q1 (p2.trans q2)
theorem xZ(F:aK K mg "by_marks" lR)(hW:∃a,mg "MARK_WORDS"=some (.ref a)∧∀H,eB K H a (yR.map V.str))(M:yQ P w K mg base C CF)(cH:aS P w K mg base C 1 "has_mark" ["marks","word"] qP)(cN:aS P w K mg base C 3 "negated" ["inner"] (d6 CF .not)) :
  aS P w K mg base C 4 "by_marks" ["holding","failing"] (ER CF):=by
 refine F.cal (k:=3) rT fun f cdv A outer s H vs Q E hr h=>?_;obtain⟨x,y,m,rfl,hx,hy,hb,k⟩:=h;have nd:=rT.nd;obtain⟨wa,hW1,hW2⟩:=hW;have hr1:=hr.mono (show 1≤3 by decide)
 have hr2:=hr.mono (show 2≤3 by decide)
 have m4:m < 4:=List.mem_range.mp (List.mem_of_find?_eq_some hb)
 refine⟨_,ae (mC (i:=2) (own:=[("word",4)]) rfl nd rfl rfl (pK rfl rfl rfl rfl) (Cm (bo (v:=.ref wa) rfl hW1 rfl)) (ba rfl) (fun _ _ _ _ _=>aO (i:=4) nd rfl (Or.inl rfl)) (fun _ _ _ _ _=>iN (aI qI (aj cH hr1 rfl ay (a8 (pv 0) (a8 (pv 4) aa))) (aj cH hr1 rfl ay (a8 (pv 1) (a8 (pv 4) aa))) (aR _))) (fun _ _ _ _ _=>pv 4))
  (ae (aE (i:=3) nd rfl (Or.inl rfl) (dW M hr2 rfl (a8 (aY aF (pv 2) aA (fun _ _=>rfl)) (a8 (aN aa) aa))))
  (ae (aV (bQ (aj cH hr1 rfl ay (a8 (pv 0) (a8 (aY aF (pv 2) aA (fun _ _=>rfl)) aa)))) (ai (aw (pv 3))) aB)
  (ai (aw (aj cN hr rfl ay (a8 (pv 3) aa)))))),?_⟩
 refine⟨wa,rfl,⟨_,hW2 H⟩,fun D hD=>?_⟩;refine GL (K:=K) (a:=wa) (xs:=yR.map V.str) (fun n H'=>H' D=some (.lst (((List.range n).filter fun m=>x.testBit m != y.testBit m).map fun m=>V.str (fQ m)))∧aD H H') ⟨a9,ah hD⟩ (fun i H' _ p=>hW2 H') ?_ ?_
 ·rintro n v H' hv ⟨p1,p2⟩;have hn:n < 4:=(KQ.mp hv).1
  have ev:v=V.str (fQ n):=by
   match n,hn with
   | 0,_=>cases hv;rfl
   | 1,_=>cases hv;rfl
   | 2,_=>cases hv;rfl
   | 3,_=>cases hv;rfl
  subst ev;refine⟨rfl,_,rfl,_,rfl,x,n,rfl,hx,hn,_,rfl,_,rfl,y,n,rfl,hy,hn,rfl,_,rfl,?_⟩;rw[show(!decide (V.bl (x.testBit n)=V.bl (y.testBit n)))=(x.testBit n != y.testBit n) from by cases x.testBit n<;>cases y.testBit n<;>rfl,gG]
  cases q:(x.testBit n != y.testBit n) with
  | true =>
   refine zx ⟨_,rfl,_,p1,?_,?_,bh p2 hD⟩
   ·rw[Kv];refine br (LI (Lg ..) ?_);rw[La];omega
   ·rw[a9,if_pos rfl,KO];rfl
  | false =>
   refine zR ⟨?_,p2⟩;rw[if_neg KM,Lp];exact p1
 ·rintro H1 ⟨p1,s1⟩;obtain⟨r,er⟩:=VM.jG hb;have p1:H1 D=some (.lst (((List.range Vbavai.MARKS).filter fun m=>x.testBit m != y.testBit m).map fun m=>V.str (fQ m))):=p1;rw[er,KR] at p1;refine⟨_,rfl,D,_,_,_,rfl,rfl,aH.of p1,d9 (j:=0) rfl,KZ _,fun l0 hl0 x1 d1 nx1 nd1 ne1=>?_⟩;have s2:aD H1 (upd H1 l0 (.lst [])):=ah hl0;refine bt (qs:=[]) (ns:=[]) nx1 nd1 ne1 a9 rfl (KZ _) (fun i q' n e=>by simp at e) fun H2 hx2 s3=>⟨rfl,?_⟩
  have fm:bx CF H2 (.mark m) x1:=⟨m4,hx2⟩;refine⟨_,rfl,_,rfl,D,_,_,_,rfl,rfl,aH.of (s3 _ _ (s2 _ _ p1)),d9 (j:=0) rfl,x,m,rfl,hx,m4,_,rfl,?_⟩;refine de (fun h=>?_) (fun h=>?_)
  ·rw[if_pos h] at k;exact⟨_,rfl,k H2 x1 fm ((s1.trans s2).trans s3)⟩
  ·rw[if_neg h] at k;exact⟨_,rfl,x1,.mark m,rfl,fm,fun H3 p3 f3 s4=>k H3 p3 f3 (((s1.trans s2).trans s3).trans s4)⟩
section
variable{H H':Hp}{kd:Addr}{kvs:List (List di×V)}
theorem SB.ins(hk:H kd=some (.dT kvs))(s:SB kd H H'){p C dx:Addr}{fs:List (Str×V)}(h:H p=some (.ins C dx fs)):H' p=some (.ins C dx fs):=s _ _ h (cK h hk (by intro z;cases z))
theorem SB.lst(hk:H kd=some (.dT kvs))(s:SB kd H H'){p:Addr}{xs:List V}(h:H p=some (.lst xs)):H' p=some (.lst xs):=s _ _ h (cK h hk (by intro z;cases z))
theorem SB.tup(hk:H kd=some (.dT kvs))(s:SB kd H H'){p:Addr}{xs:List V}(h:H p=some (.tup xs)):H' p=some (.tup xs):=s _ _ h (cK h hk (by intro z;cases z))
theorem da.byK{CF p:Addr}{k:Str}{qs:List Addr}{bv:V}{n:Nat}(hk:H kd=some (.dT kvs))(s:SB kd H H')(h:da CF H p k qs bv n):da CF H' p k qs bv n:=by
 obtain⟨dx,l,h1,h2⟩:=h;exact⟨dx,l,s.ins hk h1,s.lst hk h2⟩
theorem bx.byK{CF:Addr}(hk:H kd=some (.dT kvs))(s:SB kd H H'):∀{f:Fm}{p:Addr},bx CF H f p->bx CF H' f p
 | .tru,_,h=>da.byK hk s h
 | .mark _,_,h=>⟨h.1,da.byK hk s h.2⟩
 | .not _,_,⟨q,h,a⟩=>⟨q,h.byK hk s,bx.byK hk s a⟩
 | .and _ _,_,⟨q,r,h,a,b⟩=>⟨q,r,h.byK hk s,bx.byK hk s a,bx.byK hk s b⟩
 | .or _ _,_,⟨q,r,h,a,b⟩=>⟨q,r,h.byK hk s,bx.byK hk s a,bx.byK hk s b⟩
 | .next _,_,⟨q,h,a⟩=>⟨q,h.byK hk s,bx.byK hk s a⟩
 | .until_ _ _,_,⟨q,r,h,a,b⟩=>⟨q,r,h.byK hk s,bx.byK hk s a,bx.byK hk s b⟩
 | .within _ _ _,_,⟨k,q,r,h,a,b⟩=>⟨k,q,r,h.byK hk s,bx.byK hk s a,bx.byK hk s b⟩
 | .ever _,_,⟨q,h,a⟩=>⟨q,h.byK hk s,bx.byK hk s a⟩
theorem nH.sb{CG a lm ln:Addr}{g:Gr}(hk:H kd=some (.dT kvs))(s:SB kd H H')(G:nH CG H a lm ln g):nH CG H' a lm ln g:=by
 obtain⟨⟨dx,h1⟩,h2,ns,h3,h4,h5⟩:=G;exact⟨⟨dx,s.ins hk h1⟩,s.lst hk h2,ns,h3,s.lst hk h4,fun i l nd e1 e2=>s.lst hk (h5 i l nd e1 e2)⟩
theorem vY.sb{r:Addr}{g:Gr}{n:Nat}(hk:H kd=some (.dT kvs))(s:SB kd H H')(h:vY H r g n):vY H' r g n:=by
 obtain⟨rs,h1,h2,h3⟩:=h.ex;exact⟨rs,s.lst hk h1,h2,fun k p e=>s.lst hk (h3 k p e)⟩
end
abbrev wg:=(Nat×Nat)×Addr
def kT(a b:Nat):List di:=[Sum.inl (a:Int),Sum.inl (b:Int)]
def iy(es:List wg):List (List di×V):=es.map fun e=>(kT e.1.1 e.1.2,V.ref e.2)
structure pD(CF:Addr)(H:Hp)(kd:Addr)(g:Gr)(es:List wg):Prop where
 dict:H kd=some (.dT (iy es))
 once:(es.map (·.1)).Nodup
 ok:∀e∈es,e.1.1 < g.length∧e.1.2 < g.length∧bx CF H (VM.gV g e.1.1 e.1.2) e.2
theorem vz{a b c d:Nat}(h:kT a b=kT c d):a=c∧b=d:=by
 unfold kT at h;injection h with h1 h2
 injection h2 with h2 _
 injection h1 with h1
 injection h2 with h2
 omega
theorem DY(es:List wg):(iy es).length=es.length:=Kv ..
theorem qJ:∀(es:List wg)(a b:Nat),(dR (iy es) (kT a b)=none∧(a,b)∉es.map (·.1))∨∃e∈es,e.1=(a,b)∧dR (iy es) (kT a b)=some (.ref e.2)
 | [],a,b=>.inl ⟨rfl,by simp⟩
 | e::es,a,b=>by
  by_cases h:e.1=(a,b)
  ·refine .inr ⟨e,KJ,h,?_⟩;show dR ((kT e.1.1 e.1.2,V.ref e.2)::iy es) (kT a b)=_;rw[cZ (by rw[h])]
  ·have ne:¬(kT e.1.1 e.1.2=kT a b):=fun z=>h (Prod.ext (vz z).1 (vz z).2);have e1:dR (iy (e::es)) (kT a b)=dR (iy es) (kT a b):=d5 ne;rw[e1];rcases qJ es a b with ⟨h1,h2⟩ | ⟨x,hx,h1,h2⟩
   ·refine .inl ⟨h1,fun z=>?_⟩;rcases List.mem_cons.mp z with q | q
    ·exact h q.symm
    ·exact h2 q
   ·exact .inr ⟨x,KH _ hx,h1,h2⟩
theorem Dq{es:List wg}{a b:Nat}{p:Addr}(h:(a,b)∉es.map (·.1)):dF (iy es) (kT a b) (.ref p)=iy (es++[((a,b),p)]):=by
 rcases qJ es a b with ⟨h1,_⟩ | ⟨e,he,h1,_⟩
 ·rw[x6 _ h1];unfold iy;rw[KO];rfl
 ·exact absurd (Ls.mpr ⟨e,he,h1⟩) h
def xG(es:List wg)(a b:Nat)(p:Addr):List wg:=es.map fun e=>if e.1=(a,b) then(e.1,p) else e
theorem Bj(es:List wg)(a b:Nat)(p:Addr):(xG es a b p).map (·.1)=es.map (·.1):=by
 unfold xG;rw[Lc];refine List.map_congr_left fun e _=>?_;show(if e.1=(a,b) then(e.1,p) else e).1=e.1
 split<;>rfl
theorem Dj{es:List wg}{a b:Nat}{p:Addr}(h:(a,b)∈es.map (·.1)):dF (iy es) (kT a b) (.ref p)=iy (xG es a b p):=by
 have any:((iy es).any fun kv=>decide (kv.1=kT a b))=true:=by
  obtain⟨e,he,h1⟩:=Ls.mp h;exact List.any_eq_true.mpr ⟨_,Ls.mpr ⟨e,he,rfl⟩,by rw[h1];exact Ll rfl⟩
 unfold dF;rw[if_pos any];unfold iy xG;rw[Lc,Lc];refine List.map_congr_left fun e _=>?_;show(if kT e.1.1 e.1.2=kT a b then(kT e.1.1 e.1.2,V.ref p) else(kT e.1.1 e.1.2,V.ref e.2))=(fun e:wg=>(kT e.1.1 e.1.2,V.ref e.2)) (if e.1=(a,b) then(e.1,p) else e)
 by_cases q:e.1=(a,b)
 ·rw[if_pos q,if_pos (by rw[q])]
 ·rw[if_neg q,if_neg (fun z=>q (Prod.ext (vz z).1 (vz z).2))]
theorem pD.few{CF:Addr}{H:Hp}{kd:Addr}{g:Gr}{es:List wg}(GO:il g)(h:pD CF H kd g es):es.length≤144:=by
 have nd:(es.map fun e=>e.1.1 * 12+e.1.2).Nodup:=by
  have:=h.once;rw[show(es.map fun e=>e.1.1 * 12+e.1.2)=(es.map (·.1)).map fun p=>p.1 * 12+p.2 from by rw[Lc];rfl]
  refine List.Pairwise.map _ (fun p q hne e=>?_) (List.Pairwise.imp_of_mem (R:=fun p q=>p≠q) (S:=fun p q=>p≠q∧p.2 < 12∧q.2 < 12) (fun{p q} hp hq hne=>?_) this)
  ·obtain⟨hne,h1,h2⟩:=hne;have e:p.1 * 12+p.2=q.1 * 12+q.2:=e;exact hne (Prod.ext (by omega) (by omega))
  ·obtain⟨e1,m1,rfl⟩:=Ls.mp hp;obtain⟨e2,m2,rfl⟩:=Ls.mp hq;exact⟨hne,KU (h.ok e1 m1).2.1 GO.len,KU (h.ok e2 m2).2.1 GO.len⟩
 have:=VM.ik (n:=144) nd fun j hj=>by
  obtain⟨e,he,rfl⟩:=Ls.mp hj;have:=h.ok e he;have:=GO.len;omega
 rwa [Kv] at this
theorem pD.same{CF:Addr}{H H':Hp}{kd:Addr}{g:Gr}{es:List wg}(h:pD CF H kd g es)(s:aD H H'):pD CF H' kd g es:=⟨s _ _ h.dict,h.once,fun e he=>⟨(h.ok e he).1,(h.ok e he).2.1,(h.ok e he).2.2.same s⟩⟩
def JH(a r kd:Addr):List (Str×V):=[("graph",.ref a),("rounds",.ref r),("known",.ref kd)]
structure yu(K:Frag)(CT:Addr):Prop where
 cl:wN K CT
 ng:cQ K CT "graph"
 nr:cQ K CT "rounds"
 nk:cQ K CT "known"
structure xO(CG CF CT:Addr)(H:Hp)(t a lm ln r kd:Addr)(g:Gr):Prop where
 obj:∃dx,H t=some (.ins CT dx (JH a r kd))
 gr:nH CG H a lm ln g
 rd:vY H r g (g.length+1)
theorem xO.sb{CG CF CT:Addr}{H H':Hp}{t a lm ln r kd:Addr}{g:Gr}{kvs:List (List di×V)}(hk:H kd=some (.dT kvs))(s:SB kd H H')(h:xO CG CF CT H t a lm ln r kd g):xO CG CF CT H' t a lm ln r kd g:=by
 obtain⟨⟨dx,h1⟩,h2,h3⟩:=h;exact⟨⟨dx,s.ins hk h1⟩,h2.sb hk s,h3.sb hk s⟩
inductive oE(CG CF CT:Addr)(n:Nat)(vs:List V)(H:Hp)(Q:VK)(z3_:XK):Prop
 | mk (t ga lm ln r kd:Addr) (g:Gr) (es:List wg) (a b k:Nat):vs=[.ref t,nat a,nat b]->xO CG CF CT H t ga lm ln r kd g->il g->dO g->pD CF H kd g es->a < g.length->b < g.length->Vbavai.parts g a b=some k->k < n->n≤12->(∀(H':Hp)(p:Addr)(es':List wg),bx CF H' (VM.gV g a b) p->pD CF H' kd g es'->SB kd H H'->Q (.ref p) H')->oE CG CF CT n vs H Q z3_
inductive zK(CG CF CT:Addr)(n:Nat)(vs:List V)(H:Hp)(Q:VK)(z3_:XK):Prop
 | mk (t ga lm ln r kd ol:Addr) (g:Gr) (es:List wg) (i:Nat) (js:List Nat):vs=[.ref t,nat i,.ref ol]->xO CG CF CT H t ga lm ln r kd g->il g->dO g->pD CF H kd g es->uE H ol js->js≠[]->js.length≤4->i < g.length->n≤12->(∀j∈js,j < g.length∧∃k,Vbavai.parts g i j=some k∧k < n)->(∀(H':Hp)(p:Addr)(es':List wg),bx CF H' (Vbavai.conj (js.map (VM.gV g i))) p->pD CF H' kd g es'->SB kd H H'->Q (.ref p) H')->zK CG CF CT n vs H Q z3_
theorem lH(F:i6 K CT "formula_between" "Teller.formula_between" bM)(TT:yu K CT){n m:Nat}(cM:d4 P w K mg base C CT m "made_between" ["self","holding","failing"] (oE CG CF CT n)) :
  d4 P w K mg base C CT (m+1) "formula_between" ["self","holding","failing"] (oE CG CF CT n):=by
 refine F.cal (k:=m) dQ fun f cdv A outer s H vs Q E hr h=>?_;obtain⟨t,ga,lm,ln,r,kd,g,es,a,b,k,rfl,TA,GO,al,KN,ha,hb,hp,hkn,n12,kk⟩:=h;have nd:=dQ.nd;have hu:=Af hr
 refine⟨_,ae (aE (i:=3) nd rfl (Or.inl rfl) (vW (a8 (pv 1) (a8 (pv 2) aa))))
  (ae (aV (qY (ua hu (pv 3) (aG (pv 0) rfl))) (ai (kH hu (aG (pv 0) rfl) (pv 3) (gM (pv 0) TT.cl cM hr ay (a8 (pv 1) (a8 (pv 2) aa))) rfl)) aB)
  (ai (aw (zY hu (aG (pv 0) rfl) (pv 3) (fun _ _=>rfl))))),?_⟩
 obtain⟨dx,ho⟩:=TA.obj;refine⟨_,rfl,_,rfl,A6,fun q hq=>?_⟩;have s1:aD H (upd H q (.tup [nat a,nat b])):=ah hq;have KN1:=KN.same s1;have hq1:upd H q (.tup [nat a,nat b]) q=some (.tup ((kT a b).map kV)):=a9;refine⟨_,rfl,_,rfl,t,CT,dx,_,_,rfl,s1 _ _ ho,TT.cl,TT.nk,rfl,kd,_,rfl,kR.t (k:=kT a b) KN1.dict hq1,_,rfl,?_⟩
 have done:∀(H2:Hp)(es2:List wg)(p:Addr),pD CF H2 kd g es2->SB kd H H2->H2 q=some (.tup ((kT a b).map kV))->((a,b),p)∈es2->dR (iy es2) (kT a b)=some (.ref p)->H2 t=some (.ins CT dx (JH ga r kd))->_:=fun H2 es2 p KN2 s2 hq2 hm hv ht =>
  (show zJ (Ge (Hm K (bL 0) "known") (bL 3)) {nx:=fun _ H'=>Q .non H',rt:=Q} [some (.ref t),some (nat a),some (nat b),some (.ref q)] H2 from
   ⟨_,rfl,t,CT,dx,_,_,rfl,ht,TT.cl,TT.nk,rfl,_,rfl,kd,.ref p,rfl,by rw[←hv];exact kR.t (k:=kT a b) KN2.dict hq2,kk H2 p es2 (KN2.ok _ hm).2.2 KN2 s2⟩)
 rcases qJ es a b with ⟨h1,h2⟩ | ⟨e,he,h1,h2⟩
 ·rw[h1];refine zx ?_;have TA1:xO CG CF CT (upd H q (.tup [nat a,nat b])) t ga lm ln r kd g:=⟨⟨dx,s1 _ _ ho⟩,TA.gr.same s1,TA.rd.same s1⟩;refine⟨_,rfl,t,dx,_,rfl,s1 _ _ ho,rfl,_,rfl,_,rfl,t,ga,lm,ln,r,kd,g,es,a,b,k,rfl,TA1,GO,al,KN1,ha,hb,hp,hkn,n12,fun H2 p es2 f2 KN2 s2=>?_⟩;have s12:SB kd H H2:=(SB.of s1).trans s2;have ho2:=s2.ins KN1.dict (s1 _ _ ho);have hq2:=s2.tup KN1.dict hq1;refine⟨_,rfl,t,CT,dx,_,_,rfl,ho2,TT.cl,TT.nk,rfl,_,rfl,kd,_,rfl,pd.t (k:=kT a b) KN2.dict hq2 (br (by rw[DY];have:=KN2.few GO;omega)),?_⟩
  obtain⟨es3,e3,hm3,nd3,ok3⟩:∃es3,dF (iy es2) (kT a b) (.ref p)=iy es3∧((a,b),p)∈es3∧(es3.map (·.1)).Nodup∧∀e∈es3,e∈es2∨e=((a,b),p):=by
   by_cases q9:(a,b)∈es2.map (·.1)
   ·refine⟨xG es2 a b p,Dj q9,?_,by rw[Bj];exact KN2.once,fun e he=>?_⟩
    ·obtain⟨e,he,h9⟩:=Ls.mp q9;exact Ls.mpr ⟨e,he,by rw[if_pos h9,h9]⟩
    ·obtain⟨x,hx,rfl⟩:=Ls.mp he
     by_cases z:x.1=(a,b)
     ·rw[if_pos z,z];exact .inr rfl
     ·rw[if_neg z];exact .inl hx
   ·refine⟨es2++[((a,b),p)],Dq q9,by simp,?_,fun e he=>?_⟩
    ·rw[KO,List.nodup_append]
     exact⟨KN2.once,by simp,fun x hx y hy z=>q9 (by
      have hy:y=(a,b):=by simpa using hy
      rw[←hy,←z];exact hx)⟩
    ·rcases Lb.mp he with z | z
     ·exact .inl z
     ·exact .inr (Lq.mp z)
  rw[e3];have sK:SB kd H2 (upd H2 kd (.dT (iy es3))):=fun c o e hc=>by rw[ak hc];exact e
  have KN3:pD CF (upd H2 kd (.dT (iy es3))) kd g es3:=⟨a9,nd3,fun e he=>by
   rcases ok3 e he with z | z
   ·exact⟨(KN2.ok e z).1,(KN2.ok e z).2.1,(KN2.ok e z).2.2.byK KN2.dict sK⟩
   ·subst z;exact⟨ha,hb,f2.byK KN2.dict sK⟩⟩
  have hv:dR (iy es3) (kT a b)=some (.ref p):=by rw[←e3,DU,if_pos rfl]
  exact done _ es3 p KN3 (s12.trans sK) (sK.tup KN2.dict hq2) hm3 hv (sK.ins KN2.dict ho2)
 ·rw[h2];refine zR ?_;exact done _ es e.2 KN1 (SB.of s1) hq1 (by rw[←h1];exact he) h2 (s1 _ _ ho)
theorem da.map{CF:Addr}{H H':Hp}(hi:∀p C dx fs,H p=some (.ins C dx fs)->H' p=some (.ins C dx fs))(hl:∀p xs,H p=some (.lst xs)->H' p=some (.lst xs)){p:Addr}{k:Str}{qs:List Addr}{bv:V}{n:Nat}(h:da CF H p k qs bv n):da CF H' p k qs bv n:=by
 obtain⟨dx,l,h1,h2⟩:=h;exact⟨dx,l,hi _ _ _ _ h1,hl _ _ h2⟩
theorem bx.map{CF:Addr}{H H':Hp}(hi:∀p C dx fs,H p=some (.ins C dx fs)->H' p=some (.ins C dx fs))(hl:∀p xs,H p=some (.lst xs)->H' p=some (.lst xs)):∀{f:Fm}{p:Addr},bx CF H f p->bx CF H' f p
 | .tru,_,h=>da.map hi hl h
 | .mark _,_,h=>⟨h.1,da.map hi hl h.2⟩
 | .not _,_,⟨q,h,a⟩=>⟨q,h.map hi hl,bx.map hi hl a⟩
 | .and _ _,_,⟨q,r,h,a,b⟩=>⟨q,r,h.map hi hl,bx.map hi hl a,bx.map hi hl b⟩
 | .or _ _,_,⟨q,r,h,a,b⟩=>⟨q,r,h.map hi hl,bx.map hi hl a,bx.map hi hl b⟩
 | .next _,_,⟨q,h,a⟩=>⟨q,h.map hi hl,bx.map hi hl a⟩
 | .until_ _ _,_,⟨q,r,h,a,b⟩=>⟨q,r,h.map hi hl,bx.map hi hl a,bx.map hi hl b⟩
 | .within _ _ _,_,⟨k,q,r,h,a,b⟩=>⟨k,q,r,h.map hi hl,bx.map hi hl a,bx.map hi hl b⟩
 | .ever _,_,⟨q,h,a⟩=>⟨q,h.map hi hl,bx.map hi hl a⟩
theorem bx.off{CF:Addr}{H2 H3:Hp}{D:Addr}{od:Obj}{u:HO}(hD:H2 D=some (.frz od u))(k:∀b o,b≠D->H2 b=some o->H3 b=some o){f:Fm}{p:Addr}(h:bx CF H2 f p):bx CF (C4 H3 D) f p :=
 h.map (fun p C dx fs e=>by
  have hne:=cK e hD (by intro z;cases z)
  rw[fJ hne];exact k _ _ hne e) fun p xs e=>by
  have hne:=cK e hD (by intro z;cases z)
  rw[fJ hne];exact k _ _ hne e
theorem xy{H H':Hp}{D:Addr}(k:∀b o,b≠D->H b=some o->H' b=some o):aD (C4 H D) H':=fun b o e=>by
 obtain⟨hb,e⟩:=CM e;exact k b o hb e
theorem pw(F:i6 K CT "against_each" "Teller.against_each" cf)(T:j3 mg)(TT:yu K CT)(M:yQ P w K mg base C CF){n m:Nat}(cB:d4 P w K mg base C CT (m+2) "formula_between" ["self","holding","failing"] (oE CG CF CT n)) :
  d4 P w K mg base C CT (m+3) "against_each" ["self","node","others"] (zK CG CF CT n):=by
 refine F.cal (k:=m+2) eM fun f cdv A outer s H vs Q E hr h=>?_;obtain⟨t,ga,lm,ln,r,kd,ol,g,es,i,js,rfl,TA,GO,al,KN,hol,hne,h4,hi,n12,hjs,kk⟩:=h;have nd:=eM.nd;have hr2:=hr.mono (show 2≤m+2 by omega)
 obtain⟨dx,ho⟩:=TA.obj
 refine⟨_,ae (mC (i:=3) (own:=[("other",6)]) (te:=yM (xx CT "formula_between" (oE CG CF CT n) [] EF (bL 0) (bZ (bL 1) (bZ (bL 6) gP)))) rfl nd rfl rfl (pK rfl rfl rfl rfl) (bF (pv 2)) (ba rfl) (fun _ _ _ _ _=>aO (i:=6) nd rfl (Or.inl rfl)) (fun _ _ _ _ _=>bP)
   (fun _ _ _ _ _=>zZ (gM (pv 0) TT.cl cB hr ay (a8 (pv 1) (a8 (pv 6) aa)))))
  (ae (aE (i:=4) nd rfl (Or.inl rfl) (aY aF (pv 3) (bW bw aA) (fun _ _=>rfl)))
  (ae (gq PassesOwn.leaving rfl (oY rfl T.reversed (a8 (rL vP (pv 3) AB (pP (bW bw aA))) aa)) (aO (i:=5) nd rfl (Or.inl rfl))
   (ai (aE (i:=4) nd rfl (Or.inl rfl) (dW M hr2 rfl (a8 bf (a8 (aN (a8 (pv 5) (a8 (pv 4) aa))) aa))))))
  (ai (aw (pv 4))))),?_⟩
 refine⟨_,rfl,ol,rfl,⟨_,aH.of hol⟩,fun D hD=>?_⟩;have Dk:D≠kd:=(aq KN.dict hD).symm
 refine cj (K:=K) (a:=ol) (xs:=js.map nat) (fun c H'=>∃(ps:List Addr)(es':List wg),H' D=some (.lst (ps.map V.ref))∧ps.length=c∧(∀(j:Nat)(p:Addr)(o:Nat),ps[j]?=some p->js[j]?=some o->bx CF (C4 H' D) (VM.gV g i o) p)∧pD CF (C4 H' D) kd g es'∧SB kd H H')
  ⟨[],es,a9,rfl,fun j p o e=>(by simp at e),KN.same (fun b o e=>by rw[fJ (aq e hD),ak (aq e hD)];exact e),SB.of (ah hD)⟩ (fun c H' _ p=>by obtain⟨ps,es',p1,pl,pf,KN',sb⟩:=p;exact aH.of (sb.lst KN.dict hol)) ?_ ?_
 ·rintro c v H' hv ⟨ps,es',p1,pl,pf,KN',sb⟩;rw[Kw] at hv;obtain⟨o,hoj,rfl⟩:=KF.mp hv;obtain⟨hog,k',hk',hkn⟩:=hjs o (KA hoj);have c4:c < 4:=by have:=(KQ.mp hoj).1;omega
  refine⟨rfl,D,_,p1,trivial,fun od=>?_⟩;have sL:aD (C4 H' D) (upd H' D (.frz od (.lst (ps.map V.ref)))):=xy fun b o hb e=>by rw[ak hb];exact e
  have sbL:SB kd H (upd H' D (.frz od (.lst (ps.map V.ref)))):=fun b o e hb=>by rw[ak (aq e hD)];exact sb _ _ e hb
  have TL:=TA.sb KN.dict sbL;have KL:=KN'.same sL;refine⟨_,rfl,t,dx,_,rfl,sbL.ins KN.dict ho,rfl,_,rfl,_,rfl,t,ga,lm,ln,r,kd,g,es',i,o,k',rfl,TL,GO,al,KL,hi,hog,hk',hkn,n12,fun H2 p es2 f2 KN2 s2=>?_⟩;have hD2:H2 D=some (.frz od (.lst (ps.map V.ref))):=s2 _ _ a9 Dk;refine⟨hD2,_,a9,br (by rw[Kv];omega),?_⟩
  rw[eG];have k23:∀b o,b≠D->H2 b=some o->upd H2 D (.lst (ps.map V.ref++[V.ref p])) b=some o:=fun b o hb e=>by rw[ak hb];exact e
  refine⟨ps++[p],es2,by rw[a9,KO];rfl,by rw[Ky,pl];rfl,fun j q o' e1 e2=>?_,?_,?_⟩
  ·rcases Nat.lt_or_ge j ps.length with z | z
   ·rw[Lf z] at e1;exact bx.off hD2 k23 (((pf j q o' e1 e2).same sL).byK KL.dict s2)
   ·rw[Le z] at e1
    have e0:j - ps.length=0:=by
     rcases Nat.eq_zero_or_pos (j - ps.length) with y | y
     ·exact y
     ·rw[L8 (by rw[KY];exact y)] at e1;cases e1
    rw[e0] at e1;cases e1;rw[show j=c from by omega,hoj] at e2
    cases e2;exact bx.off hD2 k23 f2
  ·exact⟨by rw[fJ Dk.symm,ak Dk.symm];exact KN2.dict,KN2.once,fun e he=>⟨(KN2.ok e he).1,(KN2.ok e he).2.1,bx.off hD2 k23 (KN2.ok e he).2.2⟩⟩
  ·exact fun b u e hb=>by rw[ak (aq e hD)];exact s2 _ _ (sbL _ _ e hb) hb
 ·rintro H1 ⟨ps,es1,p1,pl,pf,KN0,sb⟩;rw[Kv] at pl;have sd:aD (C4 H1 D) H1:=xy fun b o _ e=>e;have KN1:=KN0.same sd;have pf1:∀(j:Nat)(p:Addr)(o:Nat),ps[j]?=some p->js[j]?=some o->bx CF H1 (VM.gV g i o) p:=fun j p o e1 e2=>(pf j p o e1 e2).same sd;have hpos:0 < js.length:=List.length_pos_iff.mpr hne
  obtain⟨ps0,pk,rfl⟩:∃l b,ps=l++[b]:=by
   rcases List.eq_nil_or_concat ps with e | ⟨l,b,e⟩
   ·rw[e] at pl;simp at pl;omega
   ·exact⟨l,b,by rw[e];simp⟩
  have pl0:ps0.length+1=js.length:=by rw[Ky,KY] at pl;exact pl
  let fs:=js.map (VM.gV g i)
  have fl:fs.length=js.length:=Kv ..;have lst:yb ((ps0++[pk]).map V.ref) (-1)=some (.ref pk):=by rw[KO];exact jM _ _
  refine⟨_,rfl,_,rfl,D,_,_,_,rfl,rfl,aH.of p1,lst,?_⟩;refine⟨_,rfl,_,rfl,_,rfl,D,_,rfl,aH.of p1,fun Z hZ=>?_⟩;rw[KO,show([pk]:List Addr).map V.ref=[V.ref pk] from rfl,xf]
  have sZ:aD H1 (upd H1 Z (.lst (ps0.map V.ref))):=ah hZ;refine⟨Z,ps0.map V.ref,rfl,aH.of a9,?_⟩
  have drop_cons:∀d,d < js.length->fs.drop d=VM.gV g i (js.getD d 0)::fs.drop (d+1):=fun d hd=>by
   rw[List.drop_eq_getElem_cons (by omega)]
   congr 1
   rw[List.getElem_map,KP,Kz hd];rfl
  have getD_js:∀d,d < js.length->js[d]?=some (js.getD d 0):=fun d hd=>by rw[KP,Kz hd];rfl
  refine zT (K:=K) (a:=Z) (xs:=ps0.map V.ref) (fun c σ H'=>∃(v5:Option V)(wp:Addr),σ=[some (.ref t),some (nat i),some (.ref ol),some (.ref D),some (.ref wp),v5,none]∧c≤ps0.length∧aD (upd H1 Z (.lst (ps0.map V.ref))) H'∧bx CF H' (Vbavai.conj (fs.drop (ps0.length - c))) wp)
   ⟨none,pk,rfl,KZ _,eU,?_⟩ (fun c σ H' p=>by obtain⟨_,_,_,_,s4,_⟩:=p;exact aH.of (s4 _ _ a9)) ?_ ?_
  ·have h9:=pf1 ps0.length pk _ (by simp) (getD_js ps0.length (by omega))
   rw[Nat.sub_zero,drop_cons ps0.length (by omega),List.drop_eq_nil_of_le (by omega),VM.DK]
   exact h9.same sZ
  ·rintro c v σ H' hlt hv ⟨v5,wp,rfl,hcl,s4,hw⟩;rw[Kv] at hlt;rw[Kw,Kv] at hv;obtain⟨q,hq,rfl⟩:=KF.mp hv;have hfq:=((pf1 (ps0.length - 1 - c) q _ (by rw[Lf (by omega)];exact hq) (getD_js (ps0.length - 1 - c) (by omega))).same sZ).same s4
   refine⟨_,rfl,_,rfl,A6,fun l hl x dx' nx ndx ne=>?_⟩;have s5:aD H' (upd H' l (.lst [.ref q,.ref wp])):=ah hl;have t1:=hfq.same s5;have t2:=hw.same s5
   have e2:fs.drop (ps0.length - (c+1))=VM.gV g i (js.getD (ps0.length - 1 - c) 0)::fs.drop (ps0.length - c):=by
    rw[show ps0.length - (c+1)=ps0.length - 1 - c from by omega,drop_cons _ (by omega),show ps0.length - 1 - c+1=ps0.length - c from by omega]
   have ne2:fs.drop (ps0.length - c)≠[]:=fun z=>by have:=congrArg List.length z;rw[List.length_drop,L0] at this;omega
   have e:1+[Vbavai.size (VM.gV g i (js.getD (ps0.length - 1 - c) 0)),Vbavai.size (Vbavai.conj (fs.drop (ps0.length - c)))].sum=Vbavai.size (.and (VM.gV g i (js.getD (ps0.length - 1 - c) 0)) (Vbavai.conj (fs.drop (ps0.length - c)))):=by simp[Vbavai.size];omega
   refine bt (qs:=[q,wp]) (ns:=[Vbavai.size (VM.gV g i (js.getD (ps0.length - 1 - c) 0)),Vbavai.size (Vbavai.conj (fs.drop (ps0.length - c)))]) nx ndx ne a9 rfl (by show 2≤2;decide) (iY t1.sz t2.sz) fun H6 hx6 s6=>⟨rfl,_,x,rfl,hlt,(s4.trans s5).trans s6,?_⟩
   rw[e] at hx6;rw[e2,VM.B9 _ _ ne2];exact⟨q,wp,hx6,t1.same s6,t2.same s6⟩
  ·rintro σ H' ⟨v5,wp,rfl,hcl,s4,hw⟩;rw[Kv,Nat.sub_self,List.drop_zero] at hw;have s7:aD H1 H':=sZ.trans s4;exact⟨_,rfl,kk H' wp es1 hw (KN1.same s7) (sb.trans (SB.of s7))⟩
theorem qw{g:Gr}(al:dO g){i:Nat}(h:i < g.length):(nodeAt g i).next≠[]:=fun e=>by
 have:=List.all_eq_true.mp (show(g.all fun x=>!x.next.isEmpty)=true from al) _ (KA (VM.aT h))
 rw[e] at this;exact absurd this (by decide)
theorem pA(F:i6 K CT "made_between" "Teller.made_between" cg)(T:j3 mg)(TT:yu K CT)(TG:gw K CG)(cP:aS P w K mg base C 1 "parting_round" ["rounds","first","second"] fX)(cY:aS P w K mg base C 4 "by_marks" ["holding","failing"] (ER CF))
  (cA:aS P w K mg base C 1 "nexts_alone" ["graph","classes","node","other"] (mh CG))(cS:aS P w K mg base C 3 "some_next" ["inner"] (d6 CF .next))(cN:aS P w K mg base C 3 "negated" ["inner"] (d6 CF .not)){n m:Nat}(cE:d4 P w K mg base C CT (m+4) "against_each" ["self","node","others"] (zK CG CF CT n)) :
  d4 P w K mg base C CT (m+5) "made_between" ["self","holding","failing"] (oE CG CF CT (n+1)):=by
 refine F.cal (k:=m+4) eL fun f cdv A outer s H vs Q E hr h=>?_;obtain⟨t,ga,lm,ln,r,kd,g,es,a,b,k,rfl,TA,GO,al,KN,ha,hb,hp,hkn,n12,kk⟩:=h;have nd:=eL.nd;have hr1:=hr.mono (show 1≤m+4 by omega)
 have hr3:=hr.mono (show 3≤m+4 by omega)
 have hr4:=hr.mono (show 4≤m+4 by omega)
 obtain⟨dx,ho⟩:=TA.obj;obtain⟨dg,hgo⟩:=TA.gr.obj;have SD:=GO.sound;obtain⟨PT,hkg⟩:=VM.iH hp
 refine⟨_,ae (aE (i:=3) nd rfl (Or.inl rfl) (aj cP hr1 rfl ay (a8 (aG (pv 0) rfl) (a8 (pv 1) (a8 (pv 2) aa)))))
  (ae (aV (aI bV (pv 3) aA (aR _)) (ai (aw (aj cY hr4 rfl ay (a8 (aY aF (aG (aG (pv 0) rfl) rfl) (pv 1) (fun _ _=>rfl)) (a8 (aY aF (aG (aG (pv 0) rfl) rfl) (pv 2) (fun _ _=>rfl)) aa))))) aB)
  (ae (aE (i:=4) nd rfl (Or.inl rfl) (aY aF (aG (pv 0) rfl) (dD vG (pv 3) aA) (fun _ _=>rfl)))
  (ae (aE (i:=5) nd rfl (Or.inl rfl) (aj cA hr1 rfl ay (a8 (aG (pv 0) rfl) (a8 (pv 4) (a8 (pv 1) (a8 (pv 2) aa))))))
  (ae (aV (aI rE (aQ aU rfl T.len boot_len (a8 (pv 5) aa)) aA (aR _)) (ai (aw (aj cS hr3 rfl ay (a8 (gM (pv 0) TT.cl cE hr ay (a8 (aQ (zE rfl) rfl T.min boot_min (a8 (pv 5) aa)) (a8 (aY aF (aG (aG (pv 0) rfl) rfl) (pv 2) (fun _ _=>rfl)) aa))) aa)))) aB)
  (ae (aE (i:=5) nd rfl (Or.inl rfl) (aj cA hr1 rfl ay (a8 (aG (pv 0) rfl) (a8 (pv 4) (a8 (pv 2) (a8 (pv 1) aa))))))
  (ai (aw (aj cN hr3 rfl ay (a8 (aj cS hr3 rfl ay (a8 (gM (pv 0) TT.cl cE hr ay (a8 (aQ (zE rfl) rfl T.min boot_min (a8 (pv 5) aa)) (a8 (aY aF (aG (aG (pv 0) rfl) rfl) (pv 1) (fun _ _=>rfl)) aa))) aa)) aa))))))))),?_⟩
 refine⟨_,rfl,t,CT,dx,_,_,rfl,ho,TT.cl,TT.nr,rfl,_,rfl,_,rfl,r,g,a,b,rfl,TA.rd,ha,hb,fun H1 s1=>?_⟩;rw[hp];have hma:=KA (VM.aT ha);have hmb:=KA (VM.aT hb);refine⟨_,rfl,rfl,_,rfl,?_⟩;cases k with
 | zero =>
  refine gz (by decide) ?_
  have ne:(nodeAt g a).marks≠(nodeAt g b).marks:=fun e=>PT.now ((VM.Gf ha hb).mpr e);obtain⟨mb,hmb'⟩:=Option.isSome_iff_exists.mp (VM.sf _ (SD.mr a ha) _ (SD.mr b hb) ne);have hmk:=s1 _ _ TA.gr.marks;refine⟨_,rfl,t,CT,dx,_,_,rfl,s1 _ _ ho,TT.cl,TT.ng,rfl,ga,CG,dg,_,_,rfl,s1 _ _ hgo,TG.cl,TG.nm,rfl,_,rfl,lm,_,_,_,rfl,rfl,aH.of hmk,d9 (by rw[Kw,VM.aT ha];rfl),?_⟩
  refine⟨_,rfl,t,CT,dx,_,_,rfl,s1 _ _ ho,TT.cl,TT.ng,rfl,ga,CG,dg,_,_,rfl,s1 _ _ hgo,TG.cl,TG.nm,rfl,_,rfl,lm,_,_,_,rfl,rfl,aH.of hmk,d9 (by rw[Kw,VM.aT hb];rfl),?_⟩
  refine⟨_,_,mb,rfl,SD.mr a ha,SD.mr b hb,hmb',fun H2 p f2 s2=>kk H2 p es ?_ (KN.same (s1.trans s2)) (SB.of (s1.trans s2))⟩;rw[VM.AW hp hmb'];exact f2
 | succ k =>
  refine bC (Ln (by intro e;injection e with e;omega)) ?_
  obtain⟨rs,hRr,hlen,hrs⟩:=TA.rd.ex;have hkl:k < rs.length:=by omega
  have hck:uE H1 (rs[k]) (Vbavai.classes g k):=s1 _ _ (hrs k _ (Kz hkl));have cl:=VM.eh g k
  refine⟨_,rfl,t,CT,dx,_,_,rfl,s1 _ _ ho,TT.cl,TT.nr,rfl,_,rfl,_,_,rfl,rfl,r,_,_,.ref rs[k],rfl,rfl,aH.of (s1 _ _ hRr),(by
   rw[show(((k+1:Nat)):Int) - 1=((k:Nat):Int) from by omega]
   exact d9 (by rw[Kw,Kz hkl];rfl)),?_⟩
  refine⟨_,rfl,t,CT,dx,_,_,rfl,s1 _ _ ho,TT.cl,TT.ng,rfl,_,rfl,_,rfl,_,rfl,ga,_,lm,ln,g,Vbavai.classes g k,a,b,rfl,TA.gr.same s1,GO,hck,cl,ha,hb,fun H2 al2 b2 s2=>?_⟩;have s12:=s1.trans s2;have least_min:∀(x y i':Nat)(hx:x < g.length)(hL:VM.eA g (Vbavai.classes g k) x y=some i'),i'∈VM.oJ g (Vbavai.classes g k) x y∧∀z∈VM.oJ g (Vbavai.classes g k) x y,i'≤z:=fun x y i' hx hL=>rV hL (GO.ord _ (KA (VM.aT hx)))
  have min_eq:∀(l:List Nat)(i':Nat)(mm:Int),i'∈l∧(∀z∈l,i'≤z)->mm∈l.map (fun z:Nat=>(z:Int))->(∀y∈l.map (fun z:Nat=>(z:Int)),mm≤y)->mm=(i':Int):=fun l i' mm h1 h2 h3=>by
   obtain⟨z,hz,rfl⟩:=Ls.mp h2;have e1:=h1.2 z hz;have e2:=h3 (i':Int) (Ls.mpr ⟨i',h1.1,rfl⟩);omega
  have fits:∀(x y i':Nat),x < g.length->y < g.length->VM.eA g (Vbavai.classes g k) x y=some i'->i' < g.length∧∀j∈(nodeAt g y).next,j < g.length∧∃k',Vbavai.parts g i' j=some k'∧k' < n:=fun x y i' hx hy hL=>by
   refine⟨SD.nx x i' hx (VM.fW hL).1,fun j hj=>⟨SD.nx y j hy hj,?_⟩⟩;obtain⟨k',h1,h2⟩:=VM.fu (by omega) hL hj
   exact⟨k',h2,by omega⟩
  refine⟨_,rfl,al2,_,rfl,.inl (aH.of b2),_,_,rfl,rfl,_,rfl,?_⟩;cases hL:VM.eA g (Vbavai.classes g k) a b with
  | some i' =>
   obtain⟨rr,er⟩:=VM.oN hL;obtain⟨hi',hfit⟩:=fits a b i' ha hb hL;refine gz (Ll (by rw[Kv,er,Kx];omega)) ?_
   obtain⟨ns,lb,hn,hlb,hLb⟩:=(TA.gr.same s12).list hb;have TA2:xO CG CF CT H2 t ga lm ln r kd g:=⟨⟨dx,s12 _ _ ho⟩,TA.gr.same s12,TA.rd.same s12⟩;have KN2:=KN.same s12;refine⟨_,rfl,t,dx,_,rfl,s12 _ _ ho,rfl,_,rfl,al2,(VM.oJ g (Vbavai.classes g k) a b).map (fun z:Nat=>(z:Int)),rfl,aH.of (by rw[b2,Lc];rfl),by rw[Kv,er,Kx];omega,fun mm hm1 hm2=>?_⟩
   rw[min_eq _ i' mm (least_min a b i' ha hL) hm1 hm2];refine⟨_,rfl,t,CT,dx,_,_,rfl,s12 _ _ ho,TT.cl,TT.ng,rfl,ga,CG,dg,_,_,rfl,s12 _ _ hgo,TG.cl,TG.nn,rfl,_,rfl,ln,_,_,_,rfl,rfl,aH.of hn,d9 hlb,?_⟩;refine⟨t,ga,lm,ln,r,kd,lb,g,es,i',_,rfl,TA2,GO,al,KN2,hLb,qw al hb,GO.out _ hmb,hi',by omega,hfit,fun H3 p3 es3 f3 KN3 sb3=>?_⟩
   refine⟨p3,_,rfl,f3,fun H4 p4 f4 s4=>kk H4 p4 es3 ?_ (KN3.same s4) (((SB.of s12).trans sb3).trans (SB.of s4))⟩;rw[VM.Bd SD ha hb hp (by omega) hL]
   exact f4
  | none =>
   obtain⟨i',hL2⟩:=VM.qr ha hb PT hL;obtain⟨hi',hfit⟩:=fits b a i' hb ha hL2;obtain⟨rr,er⟩:=VM.oN hL2;refine bC (Ln (by rw[Kv,VM.zy hL];simp)) ?_
   refine⟨_,rfl,t,CT,dx,_,_,rfl,s12 _ _ ho,TT.cl,TT.ng,rfl,_,rfl,_,rfl,_,rfl,ga,_,lm,ln,g,Vbavai.classes g k,b,a,rfl,TA.gr.same s12,GO,s2 _ _ hck,cl,hb,ha,fun H3 al3 b3 s3=>?_⟩;have s13:=s12.trans s3;obtain⟨ns,la,hn,hla,hLa⟩:=(TA.gr.same s13).list ha;have TA3:xO CG CF CT H3 t ga lm ln r kd g:=⟨⟨dx,s13 _ _ ho⟩,TA.gr.same s13,TA.rd.same s13⟩;have KN3:=KN.same s13;refine⟨_,rfl,t,dx,_,rfl,s13 _ _ ho,rfl,_,rfl,al3,(VM.oJ g (Vbavai.classes g k) b a).map (fun z:Nat=>(z:Int)),rfl,aH.of (by rw[b3,Lc];rfl),by rw[Kv,er,Kx];omega,fun mm hm1 hm2=>?_⟩
   rw[min_eq _ i' mm (least_min b a i' hb hL2) hm1 hm2];refine⟨_,rfl,t,CT,dx,_,_,rfl,s13 _ _ ho,TT.cl,TT.ng,rfl,ga,CG,dg,_,_,rfl,s13 _ _ hgo,TG.cl,TG.nn,rfl,_,rfl,ln,_,_,_,rfl,rfl,aH.of hn,d9 hla,?_⟩;refine⟨t,ga,lm,ln,r,kd,la,g,es,i',_,rfl,TA3,GO,al,KN3,hLa,qw al ha,GO.out _ hma,hi',by omega,hfit,fun H4 p4 es4 f4 KN4 sb4=>?_⟩
   refine⟨p4,_,rfl,f4,fun H5 p5 f5 s5=>⟨p5,_,rfl,f5,fun H6 p6 f6 s6=>kk H6 p6 es4 ?_ (KN4.same (s5.trans s6)) (((SB.of s13).trans sb4).trans (SB.of (s5.trans s6)))⟩⟩;rw[VM.El SD ha hb hp (by omega) hL hL2]
   exact f6
theorem d4.mono{CC:Addr}{k j:Nat}{x:Str}{ps:List Str}{sp:Sp}(c:d4 P w K mg base C CC k x ps sp)(h:k≤j):d4 P w K mg base C CC j x ps sp:=by
 obtain⟨f,fd,G,hm,b⟩:=c.ex;exact⟨f,fd,G.mono h,hm,b⟩
theorem qX(FB:i6 K CT "formula_between" "Teller.formula_between" bM)(FM:i6 K CT "made_between" "Teller.made_between" cg)(FE:i6 K CT "against_each" "Teller.against_each" cf)(T:j3 mg)(TT:yu K CT)(TG:gw K CG)(M:yQ P w K mg base C CF)
  (cP:aS P w K mg base C 1 "parting_round" ["rounds","first","second"] fX)(cY:aS P w K mg base C 4 "by_marks" ["holding","failing"] (ER CF))(cA:aS P w K mg base C 1 "nexts_alone" ["graph","classes","node","other"] (mh CG))(cS:aS P w K mg base C 3 "some_next" ["inner"] (d6 CF .next))(cN:aS P w K mg base C 3 "negated" ["inner"] (d6 CF .not)) :
  ∀n:Nat,d4 P w K mg base C CT (4 * n+5) "formula_between" ["self","holding","failing"] (oE CG CF CT n)
 | 0=>by
  obtain⟨f,fd,Ff,hm⟩:=FB.ex;refine⟨f,fd,⟨fun vs H Q E h=>?_,fun A outer s H args us vs Q E _ _ _ _ h=>?_⟩,hm,Ff.binds fun _ _ _ _ _ _ us hl=>match us,hl with | [_,_,_],_=>rfl⟩
  ·obtain⟨_,_,_,_,_,_,_,_,_,_,_,rfl,_⟩:=h;rfl
  ·obtain⟨_,_,_,_,_,_,_,_,_,_,k,_,_,_,_,_,_,_,_,hk,_⟩:=h;exact absurd hk (Nat.not_lt_zero _)
 | n+1=>by
  have ih:=qX FB FM FE T TT TG M cP cY cA cS cN n;have e1:=pw FE T TT M (n:=n) (m:=4 * n+3) ih;have e2:=pA FM T TT TG cP cY cA cS cN (n:=n) (m:=4 * n+2) e1;have e3:=lH FB TT e2;exact d4.mono e3 (by omega)
def tu(_:Hp)(xs:List V)(c:Vbavai.Call):Prop:=xs=[]∧c=.classes
def Co(_:Hp)(xs:List V)(c:Vbavai.Call):Prop:=xs=[]∧c=.quotient
def fg(g:Gr):List Nat:=(Vbavai.order g).filter fun i=>(Vbavai.classes g g.length).idxOf ((Vbavai.classes g g.length).getD i 0)==i
def jB(g:Gr)(i:Nat):List Int:=((nodeAt g i).marks:Int)::Vbavai.listed (Vbavai.ints (VM.gY g (Vbavai.classes g g.length) i))
theorem xJ{g:Gr}{c:List Nat}(GO:il g){i:Nat}(h:i < g.length):(VM.gY g c i).length≤4:=by
 have key:∀l:List Nat,(l.foldr Vbavai.put []).length≤l.length:=by
  intro l
  induction l with
  | nil=>exact KG _
  | cons a l ih =>
   rw[List.foldr_cons,Kx]
   have:∀m:List Nat,(Vbavai.put a m).length≤m.length+1:=by
    intro m
    induction m with
    | nil=>exact KG _
    | cons b m ih =>
     unfold Vbavai.put
     split
     ·simp
     ·split
      ·simp
      ·rw[Kx,Kx];omega
   have:=this (l.foldr Vbavai.put []);omega
 have h1:=key ((nodeAt g i).next.map fun j=>c.getD j 0);rw[Kv] at h1;exact Lh h1 (GO.out _ (KA (VM.aT h)))
theorem p8(F:aK K mg "classes_call" gB)(cL:aS P w K mg base C 4 "last_classes" ["graph"] (vZ CG))(cC:aS P w K mg base C 1 "counted" ["numbers"] cz):aS P w K mg base C 5 "classes_call" ["graph"] (g0 CG C vT dO tu):=by
 refine F.cal (k:=4) qU fun fa cdv A outer s H vs Q E hr h=>?_;obtain⟨a,ar,lm,ln,g,xs,c,rfl,G,GO,al,har,⟨rfl,rfl⟩,hc,k,kE⟩:=h;have g12:=GO.len
 have act:Vbavai.act ⟨g⟩ .classes=(⟨g⟩,Vbavai.listed (Vbavai.ints (Vbavai.classes g g.length))):=by
  unfold Vbavai.act;dsimp only;rw[if_neg (by rw[show Vbavai.alive g=true from al];decide)]
 refine⟨_,ai (aw (aj cC (hr.mono (by decide)) rfl ay (a8 (aj cL hr rfl ay (a8 (pv 0) aa)) aa))),?_⟩
 refine⟨_,rfl,a,lm,ln,g,rfl,G,GO,fun H1 p b1 s1=>?_⟩;refine⟨p,_,rfl,b1,by rw[Kv,VM.eh];omega,fun H2 q b2 s2=>k H2 q _ act ?_ (s1.trans s2)⟩
 show H2 q=_;rw[b2,eY]
theorem ow(F:aK K mg "quotient_call" fB)(T:j3 mg)(TG:gw K CG)(cL:aS P w K mg base C 4 "last_classes" ["graph"] (vZ CG))(cC:aS P w K mg base C 1 "counted" ["numbers"] cz)(cN:aS P w K mg base C 1 "next_classes" ["graph","classes","node"] (kG CG)) :
  aS P w K mg base C 5 "quotient_call" ["graph"] (g0 CG C vT dO Co):=by
 refine F.cal (k:=4) jf fun fa cdv A outer s H vs Q E hr h=>?_;obtain⟨a,ar,lm,ln,g,xs,c,rfl,G,GO,al,har,⟨rfl,rfl⟩,hc,k,kE⟩:=h;have g12:=GO.len;have nd:=jf.nd;have hr1:=hr.mono (show 1≤4 by decide)
 obtain⟨⟨dg,hobj⟩,hm,_⟩:=id G
 have act:Vbavai.act ⟨g⟩ .quotient=(⟨g⟩,((fg g).length:Int)::(fg g).flatMap (jB g)):=by
  unfold Vbavai.act;dsimp only;rw[if_neg (by rw[show Vbavai.alive g=true from al];decide)]
  rfl
 let cs:=Vbavai.classes g g.length
 have csl:cs.length=g.length:=VM.eh g g.length
 refine⟨_,ae (aE (i:=1) nd rfl (Or.inr rfl) (aj cL hr rfl ay (a8 (pv 0) aa)))
  (ae (mC (i:=2) (own:=[("node",4)]) (tt:=En (zj JY (bL 4) (Kf K "list" (yW K) (bL 1) (bZ (zj (uB K) (bL 1) (bL 4)) gP)))) rfl nd rfl rfl (pK rfl rfl rfl rfl) (ip rfl T.range (a8 (aQ aU rfl T.len boot_len (a8 (pv 1) aa)) aa)) (ba rfl) (fun _ _ _ _ _=>aO (i:=4) nd rfl (Or.inl rfl))
   (fun _ _ _ _ _=>iN (aI bV (pv 4) (fO PySem.F.plainAttrs_list PySem.F.slot_list_index PySem.F.type_list_index xj (pv 1) (a8 (aY aF (pv 1) (pv 4) (fun _ _=>rfl)) aa)) (aR _))) (fun _ _ _ _ _=>pv 4))
  (ae (aE (i:=3) nd rfl (Or.inl rfl) (aN (a8 (aQ aU rfl T.len boot_len (a8 (pv 2) aa)) aa)))
  (ae (gq PassesOwn.leaving rfl (bF (pv 2)) (aO (i:=4) nd rfl (Or.inl rfl))
   (ae (bH (fO PySem.F.plainAttrs_list PySem.F.slot_list_append PySem.F.type_list_append ck (pv 3) (a8 (aY aF (aG (pv 0) rfl) (pv 4) (fun _ _=>rfl)) aa)))
   (ai (bH (fO PySem.F.plainAttrs_list PySem.F.slot_list_extend PySem.F.type_list_extend ur (pv 3) (a8 (aj cC hr1 rfl ay (a8 (aj cN hr1 rfl ay (a8 (pv 0) (a8 (pv 1) (a8 (pv 4) aa)))) aa)) aa))))))
  (ai (aw (pv 3)))))),?_⟩
 refine⟨_,rfl,a,lm,ln,g,rfl,G,GO,fun H1 c1 b1 s1=>?_⟩;have b1:uE H1 c1 cs:=b1;refine⟨_,rfl,c1,_,rfl,.inl (aH.of b1),_,rfl,by rw[Kv];omega,by rw[Kv];omega,fun D hD=>?_⟩
 rw[Lk,Kv,csl];refine wW (n:=g.length) (fun i H'=>H' D=some (.lst (((List.range i).filter fun i=>cs.idxOf (cs.getD i 0)==i).map nat))∧aD H1 H') ⟨a9,ah hD⟩ ?_ ?_
 ·rintro i H' hi ⟨p1,p2⟩;rw[Int.zero_add];have hc1:=p2 _ _ b1;have hin:cs.getD i 0∈cs:=by rw[KP,Kz (by omega)];exact List.getElem_mem _
  have hj:cs[cs.idxOf (cs.getD i 0)]?=some (cs.getD i 0):=by rw[Kz (List.idxOf_lt_length_of_mem hin),List.getElem_idxOf]
  refine⟨rfl,_,rfl,_,rfl,.inl ⟨rfl,_,aH.of hc1⟩,_,rfl,_,rfl,c1,_,_,_,rfl,rfl,aH.of hc1,oo (by omega),c1,_,nat (cs.getD i 0),cs.idxOf (cs.getD i 0),nat (cs.getD i 0),rfl,rfl,aH.of hc1,rfl,iB,(by rw[Kw,hj];rfl),beq_self_eq_true _,fun m z hm hz=>?_,rfl,_,rfl,?_⟩
  ·rw[Kw] at hz;obtain⟨y,hy,rfl⟩:=KF.mp hz;have hne:=VM.zc hm hy;show((y:Int)==((cs.getD i 0:Nat):Int))=false;exact beq_eq_false_iff_ne.mpr (fun e=>hne (by omega))
  ·have ec:decide (nat i=V.int ((cs.idxOf (cs.getD i 0):Nat):Int))=(cs.idxOf (cs.getD i 0)==i):=by
    rw[Bool.eq_iff_iff,LH,beq_iff_eq]
    constructor
    ·intro e;injection e with e;omega
    ·intro e;rw[e]
   rw[ec,gG];cases q:(cs.idxOf (cs.getD i 0)==i) with
   | true =>
    refine zx ⟨_,rfl,_,p1,?_,?_,bh p2 hD⟩
    ·rw[Kv];refine br (LI (Lg ..) ?_);rw[La];omega
    ·rw[a9,if_pos rfl,KO];rfl
   | false =>
    refine zR ⟨?_,p2⟩;rw[if_neg KM,Lp];exact p1
 ·rintro H2 ⟨p1,p2⟩;have p1:uE H2 D (fg g):=p1;have fl:(fg g).length≤12:=Lh (Lg ..) (by unfold Vbavai.order;rw[La];exact g12)
  refine⟨_,rfl,D,_,rfl,.inl (aH.of p1),fM,fun N hN=>?_⟩;have s3:=(s1.trans p2).trans (ah (o:=.lst [V.int ((((fg g).map nat).length:Nat):Int)]) hN);have hNH:H N=none:=(s1.trans p2).free hN;have hN2:H2 N=none:=hN;refine⟨_,rfl,D,rfl,⟨_,aH.of (bj hN p1)⟩,?_⟩;refine mO (K:=K) (a:=D) (xs:=(fg g).map nat) (fun i σ H'=>∃v4:Option V,σ=[some (.ref a),some (.ref c1),some (.ref D),some (.ref N),v4]∧D1 H' N (((fg g).length:Int)::((fg g).take i).flatMap (jB g))∧aD H2 H') ⟨none,rfl,?_,ah hN⟩ (fun i σ H' _ p=>by obtain⟨_,_,_,s4⟩:=p;exact aH.of (s4 _ _ p1)) ?_ ?_
  ·show upd H2 N _ N=_;rw[a9,Kv];rfl
  ·rintro i v σ H' hv ⟨v4,rfl,hA,s4⟩;rw[Kw] at hv;obtain⟨m,hmi,rfl⟩:=KF.mp hv
   have hmg:m < g.length:=by
    have:=(Lr.mp (KA hmi)).1;unfold Vbavai.order at this;exact List.mem_range.mp this
   have s5:=(s1.trans p2).trans s4;have nl:=xJ (c:=cs) GO hmg
   have fm:∀l:List Nat,(∀x∈l,x < g.length)->(l.flatMap (jB g)).length≤6 * l.length:=by
    intro l
    induction l with
    | nil=>intro _;exact KG _
    | cons x l ih =>
     intro hx;rw[Lz,Ky,Kx];have h1:=ih fun y hy=>hx y (KH _ hy);have h2:=xJ (c:=cs) GO (hx x KJ);have h3:(jB g x).length=(VM.gY g cs x).length+2:=by unfold jB Vbavai.listed Vbavai.ints;rw[Kx,Kx,Kv]
     omega
   have bl:=fm ((fg g).take i) (fun x hx=>by
    have:=(Lr.mp (List.mem_of_mem_take hx)).1;unfold Vbavai.order at this;exact List.mem_range.mp this)
   rw[L9] at bl;refine⟨_,rfl,.inl ⟨rfl,_,aH.of hA⟩,_,rfl,a,CG,dg,_,_,rfl,s5 _ _ hobj,TG.cl,TG.nm,rfl,_,rfl,lm,_,_,_,rfl,rfl,aH.of (s5 _ _ hm),d9 (by rw[Kw,VM.aT hmg];rfl),N,_,_,rfl,rfl,hA,br (by rw[Kv,Kx];omega),?_⟩
   have s6:aD H2 (upd H' N (.lst ((((fg g).length:Int)::((fg g).take i).flatMap (jB g)).map V.int++[nat (nodeAt g m).marks]))):=bh s4 hN2;have s7:=(s1.trans p2).trans s6;refine⟨_,rfl,.inl ⟨rfl,_,aH.of a9⟩,_,rfl,_,rfl,_,rfl,a,c1,lm,ln,g,cs,m,rfl,G.same s7,GO,s6 _ _ (p2 _ _ b1),csl,kU GO g.length,hmg,fun H4 q4 b4 s8=>?_⟩;refine⟨q4,_,rfl,b4,by rw[Kv];omega,fun H5 q5 b5 s9=>?_⟩
   have hA5:=s9 _ _ (s8 _ _ (a9 (H:=H') (a:=N) (o:=.lst ((((fg g).length:Int)::((fg g).take i).flatMap (jB g)).map V.int++[nat (nodeAt g m).marks]))));refine⟨N,q5,_,_,rfl,rfl,hA5,b5,LR (br (by simp only[Ky,Kv,Kx,L0];omega)),_,rfl,?_,bh ((s6.trans s8).trans s9) hN2⟩
   show upd H5 N _ N=_;rw[a9,eY,bS hmi,LA];unfold jB;simp only[KO,KR,Lz,List.flatMap_nil,Lp,Ld,List.cons_append,List.nil_append];rfl
  ·rintro σ H' ⟨v4,rfl,hA,s4⟩;rw[Kv,Lo] at hA;exact⟨_,rfl,k H' N _ act hA ((s1.trans p2).trans s4)⟩
end Can
namespace Can
open PySem PySem.Spec PyProof.Rows L2 XL
open TL (tl)
variable{P:Program}{w:World}{K:Frag}{mg:Str->Option Value}{base:Heap}{C CG CF CT CR CY:Addr}
def wS(b:List Nat):Str:=⟨b.toArray⟩
theorem Gg(b:List Nat):tl (wS b)=b:=rfl
inductive IR(CF:Addr)(H:Hp)(f:Fm)(p:Addr):Prop
 | leaf (kd:List Nat) (h:da CF H p (wS kd) [] .non 1) (e:Vbavai.wordsOf f=[kd])
 | one (kd:List Nat) (q:Addr) (f1:Fm) (h:da CF H p (wS kd) [q] .non (Vbavai.size f)) (h1:bx CF H f1 q) (sz:Vbavai.size f1 < Vbavai.size f) (e:Vbavai.wordsOf f=kd::Vbavai.wordsOf f1)
 | two (kd:List Nat) (q r:Addr) (f1 f2:Fm) (h:da CF H p (wS kd) [q,r] .non (Vbavai.size f)) (h1:bx CF H f1 q) (h2:bx CF H f2 r) (sz1:Vbavai.size f1 < Vbavai.size f) (sz2:Vbavai.size f2 < Vbavai.size f)
   (e:Vbavai.wordsOf f=[40]::(Vbavai.wordsOf f1++(kd::(Vbavai.wordsOf f2++[[41]]))))
 | twoK (kd:List Nat) (k:Nat) (q r:Addr) (f1 f2:Fm) (hk:k≤12) (h:da CF H p (wS kd) [q,r] (nat k) (Vbavai.size f)) (h1:bx CF H f1 q) (h2:bx CF H f2 r) (sz1:Vbavai.size f1 < Vbavai.size f) (sz2:Vbavai.size f2 < Vbavai.size f)
   (e:Vbavai.wordsOf f=[40]::(Vbavai.wordsOf f1++(kd::(Vbavai.dec k::(Vbavai.wordsOf f2++[[41]])))))
theorem bx.shape{CF:Addr}{H:Hp}:∀{f:Fm}{p:Addr},bx CF H f p->IR CF H f p
 | .tru,_,h=>.leaf (Vbavai.text "true") h rfl
 | .mark i,_,h=>.leaf [109,48+i] h.2 rfl
 | .not f,_,⟨q,h,h1⟩=>.one (Vbavai.text "not") q f h h1 (by simp only[Vbavai.size];omega) rfl
 | .next f,_,⟨q,h,h1⟩=>.one (Vbavai.text "EX") q f h h1 (by simp only[Vbavai.size];omega) rfl
 | .ever f,_,⟨q,h,h1⟩=>.one (Vbavai.text "EG") q f h h1 (by simp only[Vbavai.size];omega) rfl
 | .and f g,_,⟨q,r,h,h1,h2⟩=>.two (Vbavai.text "and") q r f g h h1 h2 (by simp only[Vbavai.size];omega) (by simp only[Vbavai.size];omega) rfl
 | .or f g,_,⟨q,r,h,h1,h2⟩=>.two (Vbavai.text "or") q r f g h h1 h2 (by simp only[Vbavai.size];omega) (by simp only[Vbavai.size];omega) rfl
 | .until_ f g,_,⟨q,r,h,h1,h2⟩=>.two (Vbavai.text "EU") q r f g h h1 h2 (by simp only[Vbavai.size];omega) (by simp only[Vbavai.size];omega) rfl
 | .within k f g,_,⟨hk,q,r,h,h1,h2⟩=>.twoK (Vbavai.text "EU") k q r f g hk h h1 h2 (by simp only[Vbavai.size];omega) (by simp only[Vbavai.size];omega) rfl
theorem bx.fok{CF:Addr}{H:Hp}:∀{f:Fm}{p:Addr},bx CF H f p->VM.fok f
 | .tru,_,_=>trivial
 | .mark _,_,h=>h.1
 | .not f,_,⟨_,_,h1⟩=>show VM.fok f from bx.fok (f:=f) h1
 | .next f,_,⟨_,_,h1⟩=>show VM.fok f from bx.fok (f:=f) h1
 | .ever f,_,⟨_,_,h1⟩=>show VM.fok f from bx.fok (f:=f) h1
 | .and f g,_,⟨_,_,_,h1,h2⟩=>show VM.fok f∧VM.fok g from⟨bx.fok (f:=f) h1,bx.fok (f:=g) h2⟩
 | .or f g,_,⟨_,_,_,h1,h2⟩=>show VM.fok f∧VM.fok g from⟨bx.fok (f:=f) h1,bx.fok (f:=g) h2⟩
 | .until_ f g,_,⟨_,_,_,h1,h2⟩=>show VM.fok f∧VM.fok g from⟨bx.fok (f:=f) h1,bx.fok (f:=g) h2⟩
 | .within k f g,_,⟨hk,_,_,_,h1,h2⟩=>show k≤12∧VM.fok f∧VM.fok g from⟨hk,bx.fok (f:=f) h1,bx.fok (f:=g) h2⟩
theorem aX:∀f:Fm,(Vbavai.wordsOf f).length≤5 * Vbavai.size f
 | .tru=>by simp[Vbavai.wordsOf,Vbavai.size]
 | .mark _=>by simp[Vbavai.wordsOf,Vbavai.size]
 | .not f=>by have:=aX f;simp only[Vbavai.wordsOf,Vbavai.size,Kx];omega
 | .next f=>by have:=aX f;simp only[Vbavai.wordsOf,Vbavai.size,Kx];omega
 | .ever f=>by have:=aX f;simp only[Vbavai.wordsOf,Vbavai.size,Kx];omega
 | .and f g=>by have:=aX f;have:=aX g;simp only[Vbavai.wordsOf,Vbavai.size,Kx,Ky,L0];omega
 | .or f g=>by have:=aX f;have:=aX g;simp only[Vbavai.wordsOf,Vbavai.size,Kx,Ky,L0];omega
 | .until_ f g=>by have:=aX f;have:=aX g;simp only[Vbavai.wordsOf,Vbavai.size,Kx,Ky,L0];omega
 | .within k f g=>by have:=aX f;have:=aX g;simp only[Vbavai.wordsOf,Vbavai.size,Kx,Ky,L0];omega
abbrev Kr(H:Hp)(a:Addr)(l:List (List Nat)):Prop:=H a=some (.lst (l.map fun b=>V.str (wS b)))
inductive F3(CF:Addr)(h:Nat)(vs:List V)(H:Hp)(Q:VK)(z3_:XK):Prop
 | mk (p:Addr) (f:Fm):vs=[.ref p]->bx CF H f p->Vbavai.size f≤h->h≤1000->(∀(H':Hp)(l:Addr),Kr H' l (Vbavai.wordsOf f)->aD H H'->Q (.ref l) H')->F3 CF h vs H Q z3_
theorem EC:∀k:Nat,k≤12->(Str.ofString (toString ((k:Nat):Int)))=wS (Vbavai.dec k):=by decide +kernel
theorem B6:∀k:Nat,k≤12->(((k:Nat):Int).natAbs.log2 < 1920):=by decide +kernel
theorem nJ(F:aK K mg "words_written" fG)(T:j3 mg)(TF:zq K CF):∀h:Nat,aS P w K mg base C (h+1) "words_written" ["formula"] (F3 CF h):=by
 intro h
 induction h with
 | zero =>
  obtain⟨f,fd,Ff,hm⟩:=F.ex;refine⟨f,fd,⟨fun vs H Q E h=>?_,fun A outer s H args us vs Q E _ _ _ _ h=>?_⟩,hm,Ff.kp,Ff.binds fun _ _ _ _ _ _ us hl=>match us,hl with | [_],_=>rfl⟩
  ·obtain⟨_,_,rfl,_⟩:=h;rfl
  ·obtain⟨_,f,_,_,hs,_⟩:=h;have:=xF f;omega
 | succ h ih =>
  refine F.cal je fun fa cdv A outer s H vs Q E hr hsp=>?_;obtain⟨p,f,rfl,hf,hsz,h1000,k⟩:=hsp;have nd:=je.nd
  refine⟨_,ae (aV (aI bV (aQ aU rfl T.len boot_len (a8 (aG (pv 0) rfl) aa)) aA (aR _)) (ai (aw (aN (a8 (aG (pv 0) rfl) aa)))) aB)
   (ae (aE (i:=1) nd rfl (Or.inl rfl) (aj ih hr rfl ay (a8 (aY aF (aG (pv 0) rfl) aA (fun _ _=>rfl)) aa)))
   (ae (aV (aI bV (aQ aU rfl T.len boot_len (a8 (aG (pv 0) rfl) aa)) aA (aR _)) (ai (aw (dD gS (aN (a8 (aG (pv 0) rfl) aa)) (pv 1)))) aB)
   (ae (aE (i:=2) nd rfl (Or.inl rfl) (aN (a8 (aG (pv 0) rfl) aa)))
   (ae (aV (aI EL (aG (pv 0) rfl) nY (aR _)) (ai (bH (fO PySem.F.plainAttrs_list PySem.F.slot_list_append PySem.F.type_list_append ck (pv 2) (a8 (ij uW rfl T.str (by decide +kernel:bootBuiltins "str"=some (.type "str")) (a8 (aG (pv 0) rfl) aa)) aa)))) aB)
   (ai (aw (dD gS (dD gS (dD gS (dD gS (aN (a8 bf aa)) (pv 1)) (pv 2)) (aj ih hr rfl ay (a8 (aY aF (aG (pv 0) rfl) aA (fun _ _=>rfl)) aa))) (aN (a8 bf aa))))))))),?_⟩
  cases hf.shape with
  | leaf kd h1 e =>
   obtain⟨dx,l,hp,hl⟩:=h1;refine⟨_,rfl,p,CF,dx,_,_,rfl,hp,TF.cl,TF.np,rfl,l,_,rfl,.inl (aH.of hl),rfl,_,rfl,gz (by rfl) ?_⟩
   refine⟨_,rfl,p,CF,dx,_,_,rfl,hp,TF.cl,TF.nk,rfl,fM,fun q hq=>k _ q ?_ (ah hq)⟩;show upd H q _ q=_;rw[a9,e];rfl
  | one kd q f1 h0 h1 sz e =>
   obtain⟨dx,l,hp,hl⟩:=h0;have c1:=aX f1;refine⟨_,rfl,p,CF,dx,_,_,rfl,hp,TF.cl,TF.np,rfl,l,_,rfl,.inl (aH.of hl),rfl,_,rfl,bC (by rfl) ?_⟩
   refine⟨_,rfl,p,CF,dx,_,_,rfl,hp,TF.cl,TF.np,rfl,l,_,_,_,rfl,rfl,aH.of hl,rfl,q,f1,rfl,h1,by omega,by omega,fun H1 l1 b1 s1=>?_⟩
   refine⟨_,rfl,p,CF,dx,_,_,rfl,s1 _ _ hp,TF.cl,TF.np,rfl,l,_,rfl,.inl (aH.of (s1 _ _ hl)),rfl,_,rfl,gz (by rfl) ?_⟩
   refine⟨_,rfl,p,CF,dx,_,_,rfl,s1 _ _ hp,TF.cl,TF.nk,rfl,fM,fun z hz=>?_⟩;refine⟨_,rfl,z,l1,_,_,rfl,rfl,a9,bj hz b1,LR (br (by rw[Kv];show 1+_ < _;omega)),fun y hy=>k _ y ?_ ((s1.trans (ah hz)).trans (ah hy))⟩
   show upd _ y _ y=_;rw[a9,e];rfl
  | two kd q r f1 f2 h0 h1 h2 sz1 sz2 e =>
   obtain⟨dx,l,hp,hl⟩:=h0;have c1:=aX f1;have c2:=aX f2;refine⟨_,rfl,p,CF,dx,_,_,rfl,hp,TF.cl,TF.np,rfl,l,_,rfl,.inl (aH.of hl),rfl,_,rfl,bC (by rfl) ?_⟩
   refine⟨_,rfl,p,CF,dx,_,_,rfl,hp,TF.cl,TF.np,rfl,l,_,_,_,rfl,rfl,aH.of hl,rfl,q,f1,rfl,h1,by omega,by omega,fun H1 l1 b1 s1=>?_⟩
   refine⟨_,rfl,p,CF,dx,_,_,rfl,s1 _ _ hp,TF.cl,TF.np,rfl,l,_,rfl,.inl (aH.of (s1 _ _ hl)),rfl,_,rfl,bC (by rfl) ?_⟩
   refine⟨_,rfl,p,CF,dx,_,_,rfl,s1 _ _ hp,TF.cl,TF.nk,rfl,fM,fun j hj=>?_⟩;have s2:=s1.trans (ah (o:=.lst [.str (wS kd)]) hj);refine⟨_,rfl,p,CF,dx,_,_,rfl,s2 _ _ hp,TF.cl,TF.nb,rfl,rfl,_,rfl,bC (by rfl) ?_⟩
   refine⟨fM,fun z1 hz1=>?_⟩;refine⟨_,rfl,z1,l1,_,_,rfl,rfl,a9,bj hz1 (bj hj b1),LR (br (by rw[Kv];show 1+_ < _;omega)),fun z2 hz2=>?_⟩
   refine⟨_,rfl,z2,j,_,_,rfl,rfl,a9,bj hz2 (bj hz1 a9),LR (br (by rw[Ky,Kv];show 1+_+1 < _;omega)),fun z3 hz3=>?_⟩
   have s3:=fun o=>((s2.trans (ah hz1)).trans (ah hz2)).trans (ah (o:=o) hz3);refine⟨_,rfl,p,CF,dx,_,_,rfl,s3 _ _ _ hp,TF.cl,TF.np,rfl,l,_,_,_,rfl,rfl,aH.of (s3 _ _ _ hl),rfl,r,f2,rfl,h2.same (s3 _),by omega,by omega,fun H2 l2 b2 s4=>?_⟩
   refine⟨z3,l2,_,_,rfl,rfl,s4 _ _ a9,b2,LR (br (by rw[Ky,Ky,Kv,Kv];show 1+_+1+_ < _;omega)),fun z4 hz4=>?_⟩
   refine⟨fM,fun z5 hz5=>?_⟩;refine⟨z4,z5,_,_,rfl,rfl,bj hz5 a9,a9,LR (br (by rw[Ky,Ky,Ky,Kv,Kv];show 1+_+1+_+1 < _;omega)),fun z6 hz6=>k _ z6 ?_ (((((s3 _).trans s4).trans (ah hz4)).trans (ah hz5)).trans (ah hz6))⟩
   show upd _ z6 _ z6=_;rw[a9,e];simp only[KO,KR,List.map_nil,List.cons_append,List.nil_append,Ld];rfl
  | twoK kd n q r f1 f2 hk h0 h1 h2 sz1 sz2 e =>
   obtain⟨dx,l,hp,hl⟩:=h0;have c1:=aX f1;have c2:=aX f2;refine⟨_,rfl,p,CF,dx,_,_,rfl,hp,TF.cl,TF.np,rfl,l,_,rfl,.inl (aH.of hl),rfl,_,rfl,bC (by rfl) ?_⟩
   refine⟨_,rfl,p,CF,dx,_,_,rfl,hp,TF.cl,TF.np,rfl,l,_,_,_,rfl,rfl,aH.of hl,rfl,q,f1,rfl,h1,by omega,by omega,fun H1 l1 b1 s1=>?_⟩
   refine⟨_,rfl,p,CF,dx,_,_,rfl,s1 _ _ hp,TF.cl,TF.np,rfl,l,_,rfl,.inl (aH.of (s1 _ _ hl)),rfl,_,rfl,bC (by rfl) ?_⟩
   refine⟨_,rfl,p,CF,dx,_,_,rfl,s1 _ _ hp,TF.cl,TF.nk,rfl,fM,fun j hj=>?_⟩;have s2:=s1.trans (ah (o:=.lst [.str (wS kd)]) hj);refine⟨_,rfl,p,CF,dx,_,_,rfl,s2 _ _ hp,TF.cl,TF.nb,rfl,rfl,_,rfl,gz (by rfl) ?_⟩
   refine⟨_,rfl,.inl ⟨rfl,_,aH.of a9⟩,_,rfl,p,CF,dx,_,_,rfl,s2 _ _ hp,TF.cl,TF.nb,rfl,_,rfl,B6 n hk,j,_,_,rfl,rfl,a9,(by show 1 < sizeLine;decide),?_⟩
   rw[eG];have s2':=s1.trans (ah (o:=.lst ([V.str (wS kd)]++[V.str (Str.ofString (toString ((n:Nat):Int)))])) hj);refine⟨fM,fun z1 hz1=>?_⟩;refine⟨_,rfl,z1,l1,_,_,rfl,rfl,a9,bj hz1 (bj hj b1),LR (br (by rw[Kv];show 1+_ < _;omega)),fun z2 hz2=>?_⟩
   refine⟨_,rfl,z2,j,_,_,rfl,rfl,a9,bj hz2 (bj hz1 a9),LR (br (by rw[Ky,Kv];show 1+_+2 < _;omega)),fun z3 hz3=>?_⟩
   have s3:=fun o=>((s2'.trans (ah hz1)).trans (ah hz2)).trans (ah (o:=o) hz3);refine⟨_,rfl,p,CF,dx,_,_,rfl,s3 _ _ _ hp,TF.cl,TF.np,rfl,l,_,_,_,rfl,rfl,aH.of (s3 _ _ _ hl),rfl,r,f2,rfl,h2.same (s3 _),by omega,by omega,fun H2 l2 b2 s4=>?_⟩
   refine⟨z3,l2,_,_,rfl,rfl,s4 _ _ a9,b2,LR (br (by rw[Ky,Ky,Kv,Kv];show 1+_+2+_ < _;omega)),fun z4 hz4=>?_⟩
   refine⟨fM,fun z5 hz5=>?_⟩;refine⟨z4,z5,_,_,rfl,rfl,bj hz5 a9,a9,LR (br (by rw[Ky,Ky,Ky,Kv,Kv];show 1+_+2+_+1 < _;omega)),fun z6 hz6=>k _ z6 ?_ (((((s3 _).trans s4).trans (ah hz4)).trans (ah hz5)).trans (ah hz6))⟩
   show upd _ z6 _ z6=_;rw[a9,e,EC n hk];simp only[KO,KR,List.map_nil,List.cons_append,List.nil_append,Ld];rfl
theorem oQ:∀l:List (List Nat),TL.ui [32] l=Vbavai.parted l
 | []=>rfl
 | [_]=>rfl
 | a::b::r=>by
  show a++([32]++TL.ui [32] (b::r))=a++(32::Vbavai.parted (b::r));rw[oQ (b::r)];rfl
theorem Ad(f:Fm):tl (PySem.Txt.join " " ((Vbavai.wordsOf f).map wS))=Vbavai.form f:=by
 rw[TL.qb,TL.ko,Lc];show TL.ui [32] ((Vbavai.wordsOf f).map (tl∘wS))=_;rw[show(tl∘wS)=id from funext Gg,List.map_id,oQ]
 rfl
inductive pU(CF:Addr)(h:Nat)(vs:List V)(H:Hp)(Q:VK)(z3_:XK):Prop
 | mk (p:Addr) (f:Fm):vs=[.ref p]->bx CF H f p->Vbavai.size f≤h->h≤1000->(∀(H':Hp)(l:Addr),H' l=some (.lst ((Vbavai.form f).map nat))->aD H H'->Q (.ref l) H')->pU CF h vs H Q z3_
theorem FS(l:List (List Nat)):(((l.map wS).map (·.length)).sum)+(l.map wS).length * (" ":Str).length=VM.gb l:=by
 rw[show(" ":Str).length=1 from rfl,Nat.mul_one,Kv,Lc]
 unfold VM.gb
 induction l with
 | nil=>rfl
 | cons a r ih =>
  rw[KR,List.sum_cons,Kx,KR,List.sum_cons,←ih];show(wS a).length+_+_=_;rw[TL.gp,Gg];simp only[Function.comp_def];omega
theorem xt(F:aK K mg "one_form" lV)(T:j3 mg){h:Nat}(cW:aS P w K mg base C (h+1) "words_written" ["formula"] (F3 CF h)):aS P w K mg base C (h+2) "one_form" ["formula"] (pU CF h):=by
 refine F.cal (k:=h+1) qu fun fa cdv A outer s H vs Q E hr hsp=>?_;obtain⟨p,f,rfl,hf,hsz,h1000,k⟩:=hsp;have nd:=qu.nd
 refine⟨_,ai (aw (du (own:=[("sign",1)]) rfl nd (CJ (AM bf (aj cW hr rfl ay (a8 (pv 0) aa)))) (ba rfl) (fun _ _ _ _ _=>aO (i:=1) nd rfl (Or.inl rfl)) (fun _ _ _ _ _=>bP)
   (fun _ _ _ _ _=>aQ iA rfl T.ord boot_ord (a8 (pv 1) aa)))),?_⟩
 have wl:=VM.bz f hf.fok;have fl:=VM.jU hf.fok;refine⟨⟨_,rfl⟩,_,rfl,p,f,rfl,hf,hsz,h1000,fun H1 l b1 s1=>?_⟩;refine⟨_,l,(Vbavai.wordsOf f).map wS,rfl,rfl,.inl (aH.of (by rw[b1,Lc];rfl)),by rw[FS];omega,_,rfl,fun D hD=>?_⟩
 refine DM (x:=PySem.Txt.join " " ((Vbavai.wordsOf f).map wS)) (fun i H'=>H' D=some (.lst (((Vbavai.form f).map nat).take i))∧aD H1 H') ⟨a9,ah hD⟩ ?_ ?_
 ·rintro i c H' hc ⟨p1,p2⟩;rw[Ad] at hc;refine⟨rfl,_,rfl,⟨#[c]⟩,rfl,rfl,?_⟩;exact bD hD p1 p2 (by rw[Kw,hc];rfl) (by rw[Kv];omega)
 ·rintro H' ⟨p1,p2⟩;refine k H' D ?_ (s1.trans p2);rw[Ad,KS (by rw[Kv];exact KG _)] at p1
  exact p1
end Can
namespace Can
open PySem PySem.Spec PyProof.Rows L2 XL
variable{P:Program}{w:World}{K:Frag}{mg:Str->Option Value}{base:Heap}{C CG CF CT CR CY:Addr}
inductive we(CT:Addr)(vs:List V)(H:Hp)(Q:VK)(z3_:XK):Prop
 | mk (p dx a r:Addr):vs=[.ref p,.ref a,.ref r]->H p=some (.ins CT dx [])->(∀(H':Hp)(kd:Addr),H kd=none->H' p=some (.ins CT dx (JH a r kd))->H' kd=some (.dT [])->K5 p H H'->Q .non H')->we CT vs H Q z3_
structure K0(P:Program)(w:World)(K:Frag)(mg:Str->Option Value)(base:Heap)(C CT:Addr):Prop where
 ex:∃f fd,Mk K CT f∧dh P w K mg base (ic P w C) 1 f fd ["self","graph","rounds"] (we CT)∧mg "Teller"=some (.ref CT)∧d7 K fd ["self","graph","rounds"] []
inductive vq(_:Hp)(xs:List V)(c:Vbavai.Call):Prop
 | mk (i j:Int):xs=[.int i,.int j]->c=.apart i j->vq _ xs c
theorem sg{f:Addr}{fd:FuncData}(F:yd K "__init__" "Teller.__init__" i5 f fd)(TT:yu K CT):dh P w K mg base (ic P w C) 1 f fd ["self","graph","rounds"] (we CT):=by
 refine Gn F sj fun cdv A outer s H vs Q E hr h=>?_;obtain⟨p,dx,a,r,rfl,hp,k⟩:=h;refine⟨_,ae (eQ (pv 0) (pv 1) rfl) (ae (eQ (pv 0) (pv 2) rfl) (ai (eQ (pv 0) Do rfl))),?_⟩;refine⟨_,rfl,_,rfl,p,CT,dx,[],rfl,hp,TT.cl,TT.ng,(by show 0 < 1000;decide),?_⟩
 refine⟨_,rfl,_,rfl,p,CT,dx,_,rfl,a9,TT.cl,TT.nr,(by show 1 < 1000;decide),?_⟩
 rw[eG];intro kd hkd;have nkp:p≠kd:=aq a9 hkd;have hkH:H kd=none:=by rw[ak (Ne.symm nkp)] at hkd;exact hkd
 refine⟨_,rfl,p,CT,dx,_,rfl,(by rw[ak nkp];exact a9),TT.cl,TT.nk,(by show 2 < 1000;decide),?_⟩
 exact k _ kd hkH a9 (by rw[ak (Ne.symm nkp)];exact a9) fun b o e hb=>by
  have nb:b≠kd:=aq e hkH;rw[ak hb,ak nb,ak hb];exact e
theorem sX(F:aK K mg "apart_call" j4)(TG:gw K CG)(TT:yu K CT)(M:K0 P w K mg base C CT)(hL:∃t,mg "LAST_ROUND_TOLD"=some (.int 5 t))(cH:d4 P w K mg base C CG 1 "has_node" ["self","node"] (mL CG))(cL:aS P w K mg base C 1 "too_large" ["formula"] (gJ CF))(cC:aS P w K mg base C 1 "counted" ["numbers"] cz)
  (cR:aS P w K mg base C 3 "rounds_of" ["graph"] (nE CG))(cP:aS P w K mg base C 1 "parting_round" ["rounds","first","second"] fX)(cB:d4 P w K mg base C CT (4 * 6+5) "formula_between" ["self","holding","failing"] (oE CG CF CT 6))(cO:aS P w K mg base C (40+2) "one_form" ["formula"] (pU CF 40)):aS P w K mg base C 90 "apart_call" ["graph","arguments"] (g0 CG C oA dO vq):=by
 refine F.cal (k:=89) mj fun fa cdv A outer s H vs Q E hr h=>?_;obtain⟨a,ar,lm,ln,g,xs,c,rfl,G,GO,al,har,⟨i,j,rfl,rfl⟩,hc,k,kE⟩:=h;obtain⟨fi,fdi,mk,GI,hmT,bT⟩:=M.ex;obtain⟨tl,hL⟩:=hL;obtain⟨dx,ho⟩:=G.obj;have hc:=Ly.mp hc;have hi0:0≤i∧i≤11:=cb.mp hc.1;have hj0:0≤j∧j≤11:=cb.mp hc.2;have nd:=mj.nd;have hr1:=hr.mono (show 1≤89 by decide)
 have g12:=GO.len
 have act:∀r,(if(g.length:Int)≤i∨(g.length:Int)≤j then((⟨g⟩:Vbavai.St),[-3]) else match Vbavai.parts g i.toNat j.toNat with
   | none=>((⟨g⟩:Vbavai.St),[-4])
   | some k=>if 5 < k then(⟨g⟩,[-6]) else if Vbavai.SIZE < Vbavai.size (VM.gV g i.toNat j.toNat) then(⟨g⟩,[-5]) else(⟨g⟩,(k:Int)::Vbavai.listed (Vbavai.ints (Vbavai.form (VM.gV g i.toNat j.toNat)))))=r->Vbavai.act ⟨g⟩ (.apart i j)=r:=fun r h=>by
  unfold Vbavai.act;dsimp only;rw[if_neg (by rw[show Vbavai.alive g=true from al];decide)]
  exact h
 refine⟨_,ae (aE (i:=2) nd rfl (Or.inl rfl) (aY aF (pv 1) aA (fun _ _=>rfl)))
  (ae (aE (i:=3) nd rfl (Or.inl rfl) (aY aF (pv 1) aA (fun _ _=>rfl)))
  (ae (aV (PW.pt (qf (dP (bQ (gM (pv 0) TG.cl cH hr1 ay (a8 (pv 2) aa)))) (lA (dP (bQ (gM (pv 0) TG.cl cH hr1 ay (a8 (pv 3) aa))))))) (ai (aw (aN (a8 (bW bw aA) aa)))) aB)
  (ae (aE (i:=4) nd rfl (Or.inl rfl) (aj cR (hr.mono (by decide)) rfl ay (a8 (pv 0) aa)))
  (ae (aE (i:=5) nd rfl (Or.inl rfl) (aj cP hr1 rfl ay (a8 (pv 4) (a8 (pv 2) (a8 (pv 3) aa)))))
  (ae (aV (aI Hx (pv 5) nY rfl) (ai (aw (aN (a8 (bW bw aA) aa)))) aB)
  (ae (aV (aI rE (pv 5) (bo (v:=.int 5) rfl hL ⟨tl,rfl⟩) (aR _)) (ai (aw (aN (a8 (bW bw aA) aa)))) aB)
  (ae (aE (i:=6) nd rfl (Or.inl rfl) (gM (iL mk GI (hr.mono (by decide)) rfl hmT bT .nil ay (a8 (pv 0) (a8 (pv 4) aa))) TT.cl cB (hr.mono (by decide)) ay (a8 (pv 2) (a8 (pv 3) aa))))
  (ae (aV (bQ (aj cL hr1 rfl ay (a8 (pv 6) aa))) (ai (aw (aN (a8 (bW bw aA) aa)))) aB)
  (ai (aw (dD gS (aN (a8 (pv 5) aa)) (aj cC hr1 rfl ay (a8 (aj cO (hr.mono (by decide)) rfl ay (a8 (pv 6) aa)) aa))))))))))))),?_⟩
 refine⟨_,rfl,ar,_,_,_,rfl,rfl,aH.of har,rfl,_,rfl,ar,_,_,_,rfl,rfl,aH.of har,rfl,?_⟩;refine⟨_,rfl,a,dx,_,rfl,ho,rfl,_,rfl,a,lm,ln,g,i,rfl,G,_,rfl,?_⟩;have no3:((g.length:Int)≤i∨(g.length:Int)≤j)->∀q,H q=none->Q (.ref q) (upd H q (.lst [.int (-3)])):=fun z q hq=>k _ q [-3] (act _ (if_pos z)) a9 (ah hq);refine de (fun h=>?_) (fun h=>?_)
 ·rw[L5,L6] at h;exact⟨_,rfl,fM,no3 (.inl (by omega))⟩
 rw[L5,L6] at h;refine⟨_,rfl,a,dx,_,rfl,ho,rfl,_,rfl,a,lm,ln,g,j,rfl,G,_,rfl,?_⟩;refine de (fun h2=>?_) (fun h2=>?_)
 ·rw[L5,L6] at h2;exact⟨_,rfl,fM,no3 (.inr (by omega))⟩
 rw[L5,L6] at h2;obtain⟨i,rfl⟩:=Int.eq_ofNat_of_zero_le hi0.1;obtain⟨j,rfl⟩:=Int.eq_ofNat_of_zero_le hj0.1;have hi:i < g.length:=by omega
 have hj:j < g.length:=by omega
 rw[Lk,Lk,if_neg (by omega)] at act
 refine⟨_,rfl,a,lm,ln,g,rfl,G,GO,fun H1 r hR s1=>?_⟩;refine⟨_,rfl,_,rfl,_,rfl,r,g,i,j,rfl,hR,hi,hj,fun H2 s2=>?_⟩;have s12:=s1.trans s2;cases hp:Vbavai.parts g i j with
 | none =>
  rw[hp] at act;refine⟨_,rfl,rfl,_,rfl,?_⟩;refine gz rfl ?_;exact⟨_,rfl,fM,fun q hq=>k _ q _ (act _ rfl) a9 (s12.trans (ah hq))⟩
 | some n =>
  rw[hp] at act;dsimp only at act;refine⟨_,rfl,rfl,_,rfl,?_⟩;refine bC rfl ?_;refine⟨_,rfl,_,_,rfl,rfl,_,rfl,?_⟩;refine de (fun h3=>?_) (fun h3=>?_)
  ·have h3:=Lm h3;exact⟨_,rfl,fM,fun q hq=>k _ q _ (act _ (if_pos (by omega))) a9 (s12.trans (ah hq))⟩
  have n5:¬5 < n:=fun z=>h3 (Ll (by omega))
  rw[if_neg n5] at act;refine⟨_,rfl,_,rfl,fun x dy nx ndy ney=>?_⟩;have old:∀b o,H2 b=some o->b≠x∧upd (upd H2 dy (.own x)) x (.ins CT dy []) b=some o:=fun b o e=>⟨aq e nx,by rw[ak (aq e nx),ak (aq e ndy)];exact e⟩
  refine⟨x,dy,a,r,rfl,a9,fun H3 kd hk0 hx3 hk3 kp=>?_⟩;have s3:aD H2 H3:=fun b o e=>kp _ _ (old _ _ e).2 (old _ _ e).1
  have fk:H2 kd=none:=by
   cases e:H2 kd with
   | none=>rfl
   | some o=>rw[(old _ _ e).2] at hk0;cases hk0
  have s13:=s12.trans s3;refine⟨rfl,x,dy,_,rfl,hx3,rfl,_,rfl,_,rfl,x,a,lm,ln,r,kd,g,[],i,j,n,rfl,⟨⟨dy,hx3⟩,G.same s13,(hR.same s2).same s3⟩,GO,al,⟨hk3,List.nodup_nil,fun _ z=>(by cases z)⟩,hi,hj,hp,by omega,by decide,fun H4 p es f4 KN4 sb4=>?_⟩
  have s4:aD H2 H4:=fun b o e=>sb4 _ _ (s3 _ _ e) (aq e fk);have s14:=s12.trans s4;refine⟨_,rfl,p,_,rfl,f4.sz,_,rfl,?_⟩;refine de (fun h4=>?_) (fun h4=>?_)
  ·exact⟨_,rfl,fM,fun q hq=>k _ q _ (act _ (if_pos (Lm h4))) a9 (s14.trans (ah hq))⟩
  have h40:¬(40 < Vbavai.size (VM.gV g i j)):=fun z=>h4 (Ll z);rw[if_neg (show ¬Vbavai.SIZE < Vbavai.size (VM.gV g i j) from h40)] at act
  have fl:=VM.jU f4.fok;refine⟨_,rfl,fM,fun q hq=>?_⟩;refine⟨_,rfl,p,VM.gV g i j,rfl,f4.same (ah hq),by omega,by decide,fun H5 l b5 s5=>?_⟩
  refine⟨l,_,rfl,b5,?_,fun H6 z b6 s6=>?_⟩
  ·rw[Kv];omega
  refine⟨q,z,_,_,rfl,rfl,(s5.trans s6) _ _ a9,b6,?_,fun u hu=>k _ u _ (act _ rfl) ?_ ((s14.trans (ah hq)).trans ((s5.trans s6).trans (ah hu)))⟩
  ·exact LR (br (by simp only[Kx,Kv,L0];omega))
  show upd H6 u _ u=_;rw[a9,eY];rfl
theorem GQ{H:Hp}{p r:Addr}{x:List Bool}{rs:List Addr}(h1:H p=some (.lst (x.map V.bl)))(h2:H r=some (.lst (rs.map V.ref)))(hx:x≠[]):p≠r:=cK h1 h2 (fun e=>by
 injection e with e
 cases x with
 | nil=>exact hx rfl
 | cons a x=>cases rs with
  | nil=>simp at e
  | cons b rs=>simp at e)
inductive w9(CG CY:Addr)(vs:List V)(H:Hp)(Q:VK)(z3_:XK):Prop
 | mk (a f s lm ln:Addr) (g:Gr) (x y:List Bool) (i K:Nat):vs=[.ref a,.ref f,.ref s,nat i]->nH CG H a lm ln g->il g->mf H f x->mf H s y->x.length=g.length->y.length=g.length->i < g.length->K≤g.length->Vbavai.mem (VM.jm g x y K) i=true->(∀j,j < K->Vbavai.mem (VM.jm g x y j) i=false)->(∀(H':Hp)(p:Addr),Jc CY H' p (Vbavai.walk g x y K i) (-1)->aD H H'->Q (.ref p) H')->w9 CG CY vs H Q z3_
inductive nO(CG CY:Addr)(vs:List V)(H:Hp)(Q:VK)(z3_:XK):Prop
 | mk (a t lm ln:Addr) (g:Gr) (x:List Bool) (i:Nat):vs=[.ref a,.ref t,nat i]->nH CG H a lm ln g->il g->mf H t x->x.length=g.length->i < g.length->Vbavai.mem x i=true->(∀i,Vbavai.mem x i=true->∃j,(nodeAt g i).next.find? (Vbavai.mem x)=some j∧Vbavai.mem x j=true)->(∀(H':Hp)(p:Addr),Jc CY H' p (Vbavai.circle g x (g.length+1) [] i).1 ((Vbavai.circle g x (g.length+1) [] i).2:Int)->aD H H'->Q (.ref p) H')->nO CG CY vs H Q z3_
theorem pI(F:aK K mg "shortest_way" fY)(T:j3 mg)(hT:∃t,mg "NO_TURN"=some (.int (-1) t))(M:Jg P w K mg base C CY)(cO:aS P w K mg base C 2 "one_step_more" ["graph","first","second","reached"] (rS CG))
  (cL:aS P w K mg base C 1 "least_next" ["graph","truth","node"] (kN CG)):aS P w K mg base C 3 "shortest_way" ["graph","first","second","node"] (w9 CG CY):=by
 refine F.cal (k:=2) jx fun fa cdv A outer s H vs Q E hr h=>?_;obtain⟨a,f,sc,lm,ln,g,x,y,i,n,rfl,G,GO,hx,hy,lx,ly,hi,hn,hK,hbef,k⟩:=h;obtain⟨tt,hT⟩:=hT;obtain⟨fi,fdi,mk,GI,hmY,bY⟩:=M.ex;have nd:=jx.nd;have g12:=GO.len;have hr1:=hr.mono (show 1≤2 by decide)
 have lv:∀j,(VM.jm g x y j).length=g.length:=fun j=>VM.uK ly j;have ne:∀j,VM.jm g x y j≠[]:=fun j e=>by have:=lv j;rw[e] at this;simp at this;omega
 refine⟨_,ae (aE (i:=4) nd rfl (Or.inl rfl) (aN (a8 (pv 2) aa)))
  (ae (r8 PassesOwn.leaving (dP (bQ (aY aF (aY aF (pv 4) (bW bw aA) (fun _ _=>rfl)) (pv 3) (fun _ _=>rfl))))
   (ai (bH (fO PySem.F.plainAttrs_list PySem.F.slot_list_append PySem.F.type_list_append ck (pv 4) (a8 (aj cO hr rfl ay (a8 (pv 0) (a8 (pv 1) (a8 (pv 2) (a8 (aY aF (pv 4) (bW bw aA) (fun _ _=>rfl)) aa))))) aa)))))
  (ae (aE (i:=5) nd rfl (Or.inl rfl) (aN (a8 (pv 3) aa)))
  (ae (gq PassesOwn.leaving rfl (oY rfl T.reversed (a8 (rL vP (pv 4) AB (pP (bW bw aA))) aa)) (aO (i:=6) nd rfl (Or.inl rfl))
   (ai (bH (fO PySem.F.plainAttrs_list PySem.F.slot_list_append PySem.F.type_list_append ck (pv 5) (a8 (aj cL hr1 rfl ay (a8 (pv 0) (a8 (pv 6) (a8 (aY aF (pv 5) (bW bw aA) (fun _ _=>rfl)) aa)))) aa)))))
  (ai (aw (iL mk GI hr rfl hmY bY .nil ay (a8 (pv 5) (a8 (bo (v:=.int (-1)) rfl hT ⟨tt,rfl⟩) aa)))))))),?_⟩
 refine⟨_,rfl,fM,fun R hR=>?_⟩
 let RV:Nat->Hp->List Addr->Prop:=fun m H' rs=>aD H H'∧H' R=some (.lst (rs.map V.ref))∧rs.length=m+1∧∀j r,rs[j]?=some r->mf H' r (VM.jm g x y j)
 refine⟨fun m σ H'=>∃d rs,m=n - d∧d≤n∧σ=[some (.ref a),some (.ref f),some (.ref sc),some (nat i),some (.ref R),none,none]∧RV d H' rs,⟨_,0,[sc],rfl,KZ _,rfl,ah hR,a9,rfl,?_⟩,?_⟩
 ·intro j r e;cases j with
  | zero=>cases e;exact bj hR hy
  | succ j=>simp at e
 rintro m σ H' ⟨d,rs,rfl,hd,rfl,s1,hRr,hlen,hrs⟩
 obtain⟨rs0,rk,rfl⟩:∃l b,rs=l++[b]:=by
  rcases List.eq_nil_or_concat rs with e | ⟨l,b,e⟩
  ·rw[e] at hlen;simp at hlen
  ·exact⟨l,b,by rw[e];simp⟩
 have hl0:rs0.length=d:=by rw[Ky,KY] at hlen;omega
 have hrk:mf H' rk (VM.jm g x y d):=hrs d rk (by rw[←hl0];simp)
 have lst:yb ((rs0++[rk]).map V.ref) (-1)=some (.ref rk):=by rw[KO];exact jM _ _
 have hil:i < (VM.jm g x y d).length:=by rw[lv];exact hi
 refine⟨_,rfl,_,rfl,R,_,_,_,rfl,rfl,aH.of hRr,lst,_,rfl,rk,_,_,_,rfl,rfl,aH.of hrk,vQ hil,_,rfl,?_⟩;refine de (fun h=>?_) (fun h=>?_)
 ·
  have hd2:d < n:=by
   rcases Nat.lt_or_ge d n with q | q
   ·exact q
   ·have e:d=n:=by omega
    subst e;rw[hK] at h;exact absurd h (by decide)
  refine⟨fun σ2 H2=>∃rs,σ2=[some (.ref a),some (.ref f),some (.ref sc),some (nat i),some (.ref R),none,none]∧RV (d+1) H2 rs,fun σ2 H2 ⟨rs,e,q⟩=>⟨_,(by omega:n - (d+1) < n - d),d+1,rs,rfl,hd2,e,q⟩,?_⟩
  refine⟨_,rfl,.inl ⟨rfl,_,aH.of hRr⟩,_,rfl,_,rfl,_,rfl,_,rfl,_,rfl,R,_,_,_,rfl,rfl,aH.of hRr,lst,a,f,sc,rk,lm,ln,g,x,y,_,rfl,G.same s1,GO,s1 _ _ hx,s1 _ _ hy,hrk,lx,ly,lv d,fun H2 p2 b2 s2=>?_⟩;refine⟨R,_,_,rfl,rfl,s2 _ _ hRr,br (by rw[Kv,Ky,KY];omega),(rs0++[rk])++[p2],rfl,bh (s1.trans s2) hR,?_,?_,?_⟩
  ·rw[a9]
   congr 2
   rw[KO (l₁:=rs0++[rk])];rfl
  ·rw[Ky,Ky,KY,KY];omega
  ·intro j r e
   have b3:mf H2 r (VM.jm g x y j):=by
    rcases Nat.lt_or_ge j (rs0++[rk]).length with q | q
    ·rw[Lf q] at e;exact s2 _ _ (hrs j r e)
    ·rw[Le q] at e
     have e0:j - (rs0++[rk]).length=0:=by
      rcases Nat.eq_zero_or_pos (j - (rs0++[rk]).length) with z | z
      ·exact z
      ·rw[L8 (by rw[KY];exact z)] at e;cases e
     rw[e0] at e;cases e;have ej:j=d+1:=by rw[Ky,KY] at e0 q;omega
     rw[ej,VM.iu];exact b2
   show upd H2 R _ r=_;rw[ak (GQ b3 (s2 _ _ hRr) (ne j))];exact b3
 ·
  have hm:Vbavai.mem (VM.jm g x y d) i=true:=by
   cases q:Vbavai.mem (VM.jm g x y d) i with
   | true=>rfl
   | false=>rw[q] at h;exact absurd rfl h
  have ed:d=n:=by
   rcases Nat.lt_or_ge d n with q | q
   ·rw[hbef d q] at hm;exact absurd hm (by decide)
   ·omega
  subst ed;refine⟨_,rfl,fM,fun N hN=>?_⟩;refine⟨_,rfl,_,rfl,_,rfl,R,_,rfl,aH.of (bj hN hRr),fun Z hZ=>?_⟩;rw[KO,show([rk]:List Addr).map V.ref=[V.ref rk] from rfl,xf]
  have s2:aD H (upd (upd H' N (.lst [nat i])) Z (.lst (rs0.map V.ref))):=(s1.trans (ah hN)).trans (ah hZ);have s12:aD H' (upd (upd H' N (.lst [nat i])) Z (.lst (rs0.map V.ref))):=(ah hN).trans (ah hZ);refine⟨Z,rs0.map V.ref,rfl,aH.of a9,?_⟩;have NR:∀(r:Addr)(o:HO),H' r=some o->r≠N:=fun r o e=>aq e hN;have ZN:Z≠N:=(aq (a9 (H:=H') (a:=N) (o:=.lst [nat i])) hZ).symm
  refine zT (K:=K) (a:=Z) (xs:=rs0.map V.ref) (fun t σ H2=>∃(v6:Option V)(pre:List Nat)(c:Nat),σ=[some (.ref a),some (.ref f),some (.ref sc),some (nat i),some (.ref R),some (.ref N),v6]∧t≤d∧H2 N=some (.lst ((pre++[c]).map nat))∧pre.length=t ∧
   (∀b o,upd (upd H' N (.lst [nat i])) Z (.lst (rs0.map V.ref)) b=some o->b≠N->H2 b=some o)∧c < g.length∧Vbavai.walk g x y d i=pre++Vbavai.walk g x y (d - t) c∧Vbavai.mem (VM.jm g x y (d - t)) c=true∧∀m,d - t=m+1->Vbavai.mem (VM.jm g x y m) c=false)
   ⟨none,[],i,rfl,KZ _,bj hZ a9,rfl,fun b o e _=>e,hi,rfl,hm,fun m e=>hbef m (by omega)⟩ ?_ ?_ ?_
  ·rintro t σ H2 ⟨v6,pre,c,rfl,ht,hN2,hpl,lK,hc,hw,hmc,hmin⟩;exact aH.of (lK _ _ a9 ZN)
  ·rintro t v σ H2 hlt hv ⟨v6,pre,c,rfl,ht,hN2,hpl,lK,hc,hw,hmc,hmin⟩;rw[Kv,hl0] at hlt;rw[Kw,Kv,hl0] at hv;obtain⟨r,hr',rfl⟩:=KF.mp hv;obtain⟨m,em⟩:∃m,d - t=m+1:=⟨d - t - 1,by omega⟩
   have em2:d - 1 - t=m:=by omega
   rw[em2] at hr';have hrl:mf H' r (VM.jm g x y m):=hrs m r (by rw[Lf (by omega)];exact hr')
   have hr2:mf H2 r (VM.jm g x y m):=lK _ _ (s12 _ _ hrl) (NR r _ hrl);rw[em] at hmc hw;obtain⟨j,hj,hjm,hjn,hjw⟩:=VM.By ly hmc (hmin m em)
   have G2:nH CG H2 a lm ln g:=by
    obtain⟨⟨dg,h1⟩,h2,ns,h3,h4,h5⟩:=G;have old:∀b o,H b=some o->H2 b=some o:=fun b o e=>lK _ _ (s2 _ _ e) (NR b o (s1 _ _ e));exact⟨⟨dg,old _ _ h1⟩,old _ _ h2,ns,h3,old _ _ h4,fun i l nd e1 e2=>old _ _ (h5 i l nd e1 e2)⟩
   have lc:yb ((pre++[c]).map nat) (-1)=some (nat c):=by rw[KO];exact jM _ _
   refine⟨_,rfl,.inl ⟨rfl,_,aH.of hN2⟩,_,rfl,_,rfl,_,rfl,_,rfl,N,_,_,_,rfl,rfl,aH.of hN2,lc,a,r,lm,ln,g,_,c,j,rfl,G2,GO,hr2,lv m,hc,hj,fun H3 s3=>?_⟩;refine⟨N,_,_,rfl,rfl,s3 _ _ hN2,br (by rw[Kv,Ky,KY];omega),_,pre++[c],j,rfl,by omega,?_,?_,?_,?_,?_,?_,?_⟩
   ·rw[a9]
    congr 2
    rw[KO (l₁:=pre++[c])];rfl
   ·rw[Ky,KY];omega
   ·intro b o e hb;rw[ak hb];exact s3 _ _ (lK b o e hb)
   ·exact GO.nx _ (KA (VM.aT hc)) j (List.mem_of_find?_eq_some hj)
   ·rw[hw,hjw,show d - (t+1)=m from by omega,Ld]
    rfl
   ·rw[show d - (t+1)=m from by omega];exact hjm
   ·intro m' e';exact hjn m' (by omega)
  ·rintro σ H2 ⟨v6,pre,c,rfl,ht,hN2,hpl,lK,hc,hw,hmc,hmin⟩;rw[Kv,hl0,Nat.sub_self,VM.BL] at hw;refine⟨_,rfl,fun z dz nz ndz nez=>qh nz ndz hN2 fun H3 hz s3=>⟨rfl,k H3 z ?_ fun b o e=>s3 _ _ (lK _ _ (s2 _ _ e) (NR b o (s1 _ _ e)))⟩⟩;rw[hw];exact hz
theorem qQ(F:aK K mg "endless_way" gN)(M:Jg P w K mg base C CY)(cL:aS P w K mg base C 1 "least_next" ["graph","truth","node"] (kN CG)):aS P w K mg base C 3 "endless_way" ["graph","truth","node"] (nO CG CY):=by
 refine F.cal (k:=2) l6 fun fa cdv A outer s H vs Q E hr h=>?_;obtain⟨a,t,lm,ln,g,x,i,rfl,G,GO,ht,lx,hi,hx,hnext,k⟩:=h;obtain⟨fi,fdi,mk,GI,hmY,bY⟩:=M.ex;have nd:=l6.nd;have g12:=GO.len;have hr1:=hr.mono (show 1≤2 by decide)
 refine⟨_,ae (aE (i:=3) nd rfl (Or.inl rfl) (aN aa))
  (ae (aE (i:=4) nd rfl (Or.inl rfl) (pv 2))
  (ae (r8 PassesOwn.leaving (aI fP (pv 4) (pv 3) rfl)
   (ae (bH (fO PySem.F.plainAttrs_list PySem.F.slot_list_append PySem.F.type_list_append ck (pv 3) (a8 (pv 4) aa)))
   (ai (aE (i:=4) nd rfl (Or.inl rfl) (aj cL hr1 rfl ay (a8 (pv 0) (a8 (pv 1) (a8 (pv 4) aa))))))))
  (ai (aw (iL mk GI hr rfl hmY bY .nil ay (a8 (pv 3) (a8 (fO PySem.F.plainAttrs_list PySem.F.slot_list_index PySem.F.type_list_index xj (pv 3) (a8 (pv 4) aa)) aa))))))),?_⟩
 refine⟨GS,fun N hN=>⟨_,rfl,?_⟩⟩
 refine⟨fun m σ H'=>∃(seen:List Nat)(c:Nat),m=g.length+1 - seen.length∧σ=[some (.ref a),some (.ref t),some (nat i),some (.ref N),some (nat c)]∧H' N=some (.lst (seen.reverse.map nat))∧aD H H'∧seen.Nodup∧(∀j∈seen,j < g.length)∧c < g.length∧Vbavai.mem x c=true ∧
  Vbavai.circle g x (g.length+1) [] i=Vbavai.circle g x (g.length+1 - seen.length) seen c,⟨_,[],i,rfl,rfl,a9,ah hN,List.nodup_nil,fun _ z=>(by cases z),hi,hx,rfl⟩,?_⟩
 rintro m σ H' ⟨seen,c,rfl,rfl,hN',s1,hnd,hlt,hc,hxc,hcir⟩;have hsl:seen.length≤g.length:=VM.ik hnd hlt
 have hin:nI (nat c) (seen.reverse.map nat)=seen.reverse.contains c:=by
  have:=om (l:=seen.reverse) (b:=(c:Int)) (by omega)
  rwa [Lk] at this
 refine⟨_,rfl,_,rfl,N,_,rfl,.inl (aH.of hN'),rfl,iB,_,rfl,?_⟩;refine de (fun h=>?_) (fun h=>?_)
 ·have hout:c∉seen:=fun z=>by
   rw[if_pos rfl,hin,LQ.mpr (List.mem_reverse.mpr z)] at h;exact absurd h (by decide)
  obtain⟨j,hj,hxj⟩:=hnext c hxc;have hnd2:(c::seen).Nodup:=List.nodup_cons.mpr ⟨hout,hnd⟩
  have hlt2:∀j∈c::seen,j < g.length:=fun j hj=>by
   rcases List.mem_cons.mp hj with q | q
   ·rw[q];exact hc
   ·exact hlt j q
  have hsl2:seen.length+1≤g.length:=VM.ik hnd2 hlt2
  refine⟨fun σ2 H2=>∃j,σ2=[some (.ref a),some (.ref t),some (nat i),some (.ref N),some (nat j)]∧H2 N=some (.lst ((c::seen).reverse.map nat))∧aD H H2∧j < g.length∧Vbavai.mem x j=true∧(nodeAt g c).next.find? (Vbavai.mem x)=some j,
   fun σ2 H2 ⟨j,e,h1,h2,h3,h4,h5⟩=>⟨_,(by rw[Kx];omega:g.length+1 - (c::seen).length < g.length+1 - seen.length),c::seen,j,rfl,e,h1,h2,hnd2,hlt2,h3,h4,?_⟩,?_⟩
  ·rw[hcir,Kx,show g.length+1 - seen.length=(g.length+1 - (seen.length+1))+1 from by omega]
   exact VM.BF hout h5
  ·refine⟨_,rfl,.inl ⟨rfl,_,aH.of hN'⟩,_,rfl,N,_,_,rfl,rfl,hN',br (by rw[Kv,List.length_reverse];omega),?_⟩
   have s2:aD H (upd H' N (.lst (seen.reverse.map nat++[nat c]))):=bh s1 hN;refine⟨_,rfl,_,rfl,_,rfl,a,t,lm,ln,g,x,c,j,rfl,G.same s2,GO,s2 _ _ ht,lx,hc,hj,fun H3 s3=>?_⟩;refine⟨j,rfl,?_,s2.trans s3,?_,hxj,hj⟩
   ·refine s3 _ _ ?_;rw[a9,List.reverse_cons,KO];rfl
   ·exact GO.nx _ (KA (VM.aT hc)) j (List.mem_of_find?_eq_some hj)
 ·have hcs:c∈seen:=by
   have:seen.reverse.contains c=true:=by
    cases q:seen.reverse.contains c with
    | true=>rfl
    | false=>rw[if_pos rfl,hin,q] at h;exact absurd rfl h
   exact List.mem_reverse.mp (LQ.mp this)
  have hcr:=List.mem_reverse.mpr hcs;rw[hcir,VM.Bh hcs] at k
  have hj:seen.reverse[seen.reverse.idxOf c]?=some c:=by
   rw[Kz (List.idxOf_lt_length_of_mem hcr),List.getElem_idxOf]
  refine⟨_,rfl,_,rfl,.inl ⟨rfl,_,aH.of hN'⟩,_,rfl,N,_,nat c,seen.reverse.idxOf c,nat c,rfl,rfl,aH.of hN',rfl,iB,(by rw[Kw,hj];rfl),?_,fun m z hm hz=>?_,?_⟩
  ·exact beq_self_eq_true (c:Int)
  ·rw[Kw] at hz;obtain⟨y,hy,rfl⟩:=KF.mp hz;have hne:y≠c:=VM.zc hm hy;show((y:Int)==(c:Int))=false;exact beq_eq_false_iff_ne.mpr (fun e=>hne (by omega))
  ·exact fun z dz nz ndz nez=>qh nz ndz hN' fun H3 hz s3=>⟨rfl,k H3 z hz (s1.trans s3)⟩
def v9:Fm->Bool
 | .next _=>true
 | .until_ _ _=>true
 | .within _ _ _=>true
 | .ever _=>true
 | _=>false
def Gz:Option Nat->Int
 | none=>-1
 | some n=>n
inductive nh(CF:Addr)(vs:List V)(H:Hp)(Q:VK)(z3_:XK):Prop
 | mk (p:Addr) (f:Fm):vs=[.ref p]->bx CF H f p->(∀H',aD H H'->Q (.bl (v9 f)) H')->nh CF vs H Q z3_
inductive Cv(CG CF CY:Addr)(vs:List V)(H:Hp)(Q:VK)(z3_:XK):Prop
 | mk (a p lm ln:Addr) (g:Gr) (f:Fm) (i:Nat):vs=[.ref a,.ref p,nat i]->nH CG H a lm ln g->il g->bx CF H f p->Vbavai.size f≤40->i < g.length->Vbavai.mem (Vbavai.sat g f) i=true->v9 f=true->(∀(H':Hp)(q:Addr)(w:List Nat×Option Nat),Vbavai.shows g f i=some w->w.1.length≤14->Jc CY H' q w.1 (Gz w.2)->aD H H'->Q (.ref q) H')->Cv CG CF CY vs H Q z3_
theorem xb{CF:Addr}{H:Hp}{f:Fm}{p:Addr}(h:bx CF H f p):∃(kd:Str)(qs:List Addr)(bv:V)(n:Nat),da CF H p kd qs bv n∧nI (.str kd) [.str "EX",.str "EU",.str "EG"]=v9 f:=by
 cases f with
 | tru=>exact⟨_,_,_,_,h,by decide⟩
 | mark i =>
  refine⟨_,_,_,_,h.2,?_⟩;have:=h.1
  match i,this with
  | 0,_=>decide
  | 1,_=>decide
  | 2,_=>decide
  | 3,_=>decide
 | not f=>obtain⟨q,h,_⟩:=h;exact⟨_,_,_,_,h,by show nI _ _=false;decide⟩
 | and f g=>obtain⟨q,r,h,_⟩:=h;exact⟨_,_,_,_,h,by show nI _ _=false;decide⟩
 | or f g=>obtain⟨q,r,h,_⟩:=h;exact⟨_,_,_,_,h,by show nI _ _=false;decide⟩
 | next f=>obtain⟨q,h,_⟩:=h;exact⟨_,_,_,_,h,by show nI _ _=true;decide⟩
 | until_ f g=>obtain⟨q,r,h,_⟩:=h;exact⟨_,_,_,_,h,by show nI _ _=true;decide⟩
 | within k f g=>obtain⟨_,q,r,h,_⟩:=h;exact⟨_,_,_,_,h,by show nI _ _=true;decide⟩
 | ever f=>obtain⟨q,h,_⟩:=h;exact⟨_,_,_,_,h,by show nI _ _=true;decide⟩
theorem zk(F:aK K mg "has_way" nX)(TF:zq K CF):aS P w K mg base C 1 "has_way" ["formula"] (nh CF):=by
 refine F.cal AZ fun fa cdv A outer s H vs Q E hr h=>?_;obtain⟨p,f,rfl,hf,k⟩:=h;obtain⟨kd,qs,bv,n,⟨dx,l,hp,hl⟩,e⟩:=xb hf;refine⟨_,ai (aw (eE ee (aG (pv 0) rfl) (vW (a8 bf (a8 bf (a8 bf aa)))) rfl)),?_⟩;refine⟨_,rfl,p,CF,dx,_,_,rfl,hp,TF.cl,TF.nk,rfl,Kn,fun t ht=>?_⟩;refine⟨t,_,rfl,.inr (eB.of a9),rfl,rfl,?_⟩;rw[if_neg KM,e];exact k _ (ah ht)
theorem vD(F:aK K mg "way_shown" ju)(TF:zq K CF)(hT:∃t,mg "NO_TURN"=some (.int (-1) t))(M:Jg P w K mg base C CY)(cT:aS P w K mg base C (40+4) "truth_of" ["graph","formula"] (kr CG CF 40))
  (cL:aS P w K mg base C 1 "least_next" ["graph","truth","node"] (kN CG))(cS:aS P w K mg base C 3 "shortest_way" ["graph","first","second","node"] (w9 CG CY))(cE:aS P w K mg base C 3 "endless_way" ["graph","truth","node"] (nO CG CY)) :
  aS P w K mg base C 45 "way_shown" ["graph","formula","node"] (Cv CG CF CY):=by
 refine F.cal (k:=44) oX fun fa cdv A outer s H vs Q E hr h=>?_;obtain⟨a,p,lm,ln,g,f,i,rfl,G,GO,hf,hsz,hi,hm,hw,k⟩:=h;obtain⟨tt,hT⟩:=hT;obtain⟨fi,fdi,mk,GI,hmY,bY⟩:=M.ex;have nd:=oX.nd;have hr3:=hr.mono (show 3≤44 by decide)
 have hr2:=hr.mono (show 2≤44 by decide)
 have hr1:=hr.mono (show 1≤44 by decide)
 refine⟨_,ae (aV (aI bV (aG (pv 1) rfl) bf (aR _)) (ai (aw (aj cE hr3 rfl ay (a8 (pv 0) (a8 (aj cT hr rfl ay (a8 (pv 0) (a8 (pv 1) aa))) (a8 (pv 2) aa)))))) aB)
  (ae (aE (i:=3) nd rfl (Or.inl rfl) (aj cT hr rfl ay (a8 (pv 0) (a8 (aY aF (aG (pv 1) rfl) aA (fun _ _=>rfl)) aa))))
  (ae (aV (aI bV (aG (pv 1) rfl) bf (aR _)) (ai (aw (iL mk GI hr2 rfl hmY bY .nil ay (a8 (aN (a8 (pv 2) (a8 (aj cL hr1 rfl ay (a8 (pv 0) (a8 (pv 3) (a8 (pv 2) aa)))) aa))) (a8 (bo (v:=.int (-1)) rfl hT ⟨tt,rfl⟩) aa))))) aB)
  (ai (aw (aj cS hr3 rfl ay (a8 (pv 0) (a8 (pv 3) (a8 (aj cT hr rfl ay (a8 (pv 0) (a8 (aY aF (aG (pv 1) rfl) aA (fun _ _=>rfl)) aa))) (a8 (pv 2) aa))))))))),?_⟩
 cases f with
 | tru=>exact absurd (show false=true from hw) (by decide)
 | mark _=>exact absurd (show false=true from hw) (by decide)
 | not _=>exact absurd (show false=true from hw) (by decide)
 | and _ _=>exact absurd (show false=true from hw) (by decide)
 | or _ _=>exact absurd (show false=true from hw) (by decide)
 | ever f1 =>
  obtain⟨q,⟨dx,l,hp,hl⟩,h1⟩:=id hf;refine⟨_,rfl,p,CF,dx,_,_,rfl,hp,TF.cl,TF.nk,rfl,rfl,_,rfl,gz (by decide) ?_⟩
  refine⟨_,rfl,_,rfl,_,rfl,a,p,lm,ln,g,_,rfl,G,GO,hf,hsz,fun H1 t1 b1 s1=>?_⟩;refine⟨_,rfl,a,t1,lm,ln,g,_,i,rfl,G.same s1,GO,b1,VM.bc g _,hi,hm,fun j hj=>?_,fun H2 y hy s2=>k H2 y _ rfl (by have:=VM.lP g (Vbavai.sat g (.ever f1)) (g.length+1) [] i;rw[L0] at this;have:=GO.len;exact Lh ‹_› (by omega)) hy (s1.trans s2)⟩
  exact VM.C0 (VM.bc g f1) hj
 | next f1 =>
  obtain⟨q,⟨dx,l,hp,hl⟩,h1⟩:=id hf;refine⟨_,rfl,p,CF,dx,_,_,rfl,hp,TF.cl,TF.nk,rfl,rfl,_,rfl,bC (by decide) ?_⟩
  refine⟨_,rfl,_,rfl,p,CF,dx,_,_,rfl,hp,TF.cl,TF.np,rfl,l,_,_,_,rfl,rfl,aH.of hl,rfl,a,q,lm,ln,g,f1,rfl,G,GO,h1,by simp only[Vbavai.size] at hsz;omega,fun H1 t1 b1 s1=>?_⟩
  refine⟨_,rfl,p,CF,dx,_,_,rfl,s1 _ _ hp,TF.cl,TF.nk,rfl,rfl,_,rfl,gz (by decide) ?_⟩
  have hs:Vbavai.some_ g (Vbavai.sat g f1) i=true:=by
   have:Vbavai.mem (Vbavai.build g (Vbavai.some_ g (Vbavai.sat g f1))) i=true:=hm
   rwa [VM.kJ hi] at this
  obtain⟨j,hj⟩:∃j,(nodeAt g i).next.find? (Vbavai.mem (Vbavai.sat g f1))=some j:=by
   cases e:(nodeAt g i).next.find? (Vbavai.mem (Vbavai.sat g f1)) with
   | some j=>exact⟨j,rfl⟩
   | none =>
    obtain⟨j,hj,hx⟩:=List.any_eq_true.mp hs;exact absurd hx (by simpa using LF.mp e j hj)
  refine⟨_,rfl,_,rfl,_,rfl,_,rfl,a,t1,lm,ln,g,_,i,j,rfl,G.same s1,GO,b1,VM.bc g f1,hi,hj,fun H2 s2=>?_⟩;refine⟨A6,fun L hL=>?_⟩;refine fun z dz nz ndz nez=>qh (ns:=[i,j]) nz ndz a9 fun H3 hz s3=>⟨rfl,k H3 z ([i,j],none) ?_ (by show 2≤14;decide) hz (((s1.trans s2).trans (ah hL)).trans s3)⟩
  unfold Vbavai.shows;dsimp only;rw[hj];rfl
 | until_ f1 f2 =>
  obtain⟨q,r,⟨dx,l,hp,hl⟩,h1,h2⟩:=id hf;refine⟨_,rfl,p,CF,dx,_,_,rfl,hp,TF.cl,TF.nk,rfl,rfl,_,rfl,bC (by decide) ?_⟩
  refine⟨_,rfl,_,rfl,p,CF,dx,_,_,rfl,hp,TF.cl,TF.np,rfl,l,_,_,_,rfl,rfl,aH.of hl,rfl,a,q,lm,ln,g,f1,rfl,G,GO,h1,by simp only[Vbavai.size] at hsz;omega,fun H1 t1 b1 s1=>?_⟩
  refine⟨_,rfl,p,CF,dx,_,_,rfl,s1 _ _ hp,TF.cl,TF.nk,rfl,rfl,_,rfl,bC (by decide) ?_⟩
  refine⟨_,rfl,_,rfl,_,rfl,_,rfl,p,CF,dx,_,_,rfl,s1 _ _ hp,TF.cl,TF.np,rfl,l,_,_,_,rfl,rfl,aH.of (s1 _ _ hl),rfl,a,r,lm,ln,g,f2,rfl,G.same s1,GO,h2.same s1,by simp only[Vbavai.size] at hsz;omega,fun H2 t2 b2 s2=>?_⟩
  obtain⟨n,hst,hn,hK,hbef⟩:=VM.se (m:=g.length) (VM.bc g f2) hm;refine⟨_,rfl,a,t1,t2,lm,ln,g,_,_,i,n,rfl,G.same (s1.trans s2),GO,s2 _ _ b1,b2,VM.bc g f1,VM.bc g f2,hi,hn,hK,hbef,fun H3 y hy s3=>k H3 y (Vbavai.walk g (Vbavai.sat g f1) (Vbavai.sat g f2) n i,none) ?_ (Lh (VM.jH g _ _ n i) (by have:=GO.len;omega)) hy ((s1.trans s2).trans s3)⟩
  unfold Vbavai.shows;dsimp only;rw[hst];rfl
 | within n0 f1 f2 =>
  obtain⟨n12,q,r,⟨dx,l,hp,hl⟩,h1,h2⟩:=id hf;refine⟨_,rfl,p,CF,dx,_,_,rfl,hp,TF.cl,TF.nk,rfl,rfl,_,rfl,bC (by decide) ?_⟩
  refine⟨_,rfl,_,rfl,p,CF,dx,_,_,rfl,hp,TF.cl,TF.np,rfl,l,_,_,_,rfl,rfl,aH.of hl,rfl,a,q,lm,ln,g,f1,rfl,G,GO,h1,by simp only[Vbavai.size] at hsz;omega,fun H1 t1 b1 s1=>?_⟩
  refine⟨_,rfl,p,CF,dx,_,_,rfl,s1 _ _ hp,TF.cl,TF.nk,rfl,rfl,_,rfl,bC (by decide) ?_⟩
  refine⟨_,rfl,_,rfl,_,rfl,_,rfl,p,CF,dx,_,_,rfl,s1 _ _ hp,TF.cl,TF.np,rfl,l,_,_,_,rfl,rfl,aH.of (s1 _ _ hl),rfl,a,r,lm,ln,g,f2,rfl,G.same s1,GO,h2.same s1,by simp only[Vbavai.size] at hsz;omega,fun H2 t2 b2 s2=>?_⟩
  obtain⟨n,hst,hn,hK,hbef⟩:=VM.se (m:=n0) (VM.bc g f2) hm;refine⟨_,rfl,a,t1,t2,lm,ln,g,_,_,i,n,rfl,G.same (s1.trans s2),GO,s2 _ _ b1,b2,VM.bc g f1,VM.bc g f2,hi,hn,hK,hbef,fun H3 y hy s3=>k H3 y (Vbavai.walk g (Vbavai.sat g f1) (Vbavai.sat g f2) n i,none) ?_ (Lh (VM.jH g _ _ n i) (by have:=GO.len;omega)) hy ((s1.trans s2).trans s3)⟩
  unfold Vbavai.shows;dsimp only;rw[hst];rfl
theorem sW(F:aK K mg "shows_call" ja)(TG:gw K CG)(TY:GP K CY)(cH:d4 P w K mg base C CG 1 "has_node" ["self","node"] (mL CG))(cL:aS P w K mg base C 1 "too_large" ["formula"] (gJ CF))(cC:aS P w K mg base C 1 "counted" ["numbers"] cz)(cF:aS P w K mg base C 89 "formula_of" ["text"] (eR K C CF))
  (cT:aS P w K mg base C (40+4) "truth_of" ["graph","formula"] (kr CG CF 40))(cW:aS P w K mg base C 1 "has_way" ["formula"] (nh CF))(cS:aS P w K mg base C 45 "way_shown" ["graph","formula","node"] (Cv CG CF CY)):aS P w K mg base C 90 "shows_call" ["graph","arguments"] (g0 CG C oA dO pX):=by
 refine F.cal (k:=89) mQ fun fa cdv A outer s H vs Q E hr h=>?_;obtain⟨a,ar,lm,ln,g,xs,c,rfl,G,GO,al,har,⟨i,t,bs,rfl,rfl,ht⟩,hc,k,kE⟩:=h;have hc:=Ly.mp hc;have hi0:0≤i∧i≤11:=cb.mp hc.1;obtain⟨hlen,hb⟩:=iq hc.2;obtain⟨dx,ho⟩:=G.obj;have nd:=mQ.nd;have hr1:=hr.mono (show 1≤89 by decide)
 have act:∀r,(if(g.length:Int)≤i then((⟨g⟩:Vbavai.St),[-3]) else Vbavai.ofText ⟨g⟩ (Vbavai.ints bs) fun f=>if Vbavai.mem (Vbavai.sat g f) i.toNat=false then [-4] else match Vbavai.shows g f i.toNat with
   | none=>[-6]
   | some w=>(match w.2 with
    | none=>[0,-1]
    | some n=>[0,(n:Int)])++Vbavai.listed (Vbavai.ints w.1))=r->Vbavai.act ⟨g⟩ (.shows i (Vbavai.ints bs))=r:=fun r h=>by
  unfold Vbavai.act;dsimp only;rw[if_neg (by rw[show Vbavai.alive g=true from al];decide)]
  exact h
 refine⟨_,ae (aE (i:=2) nd rfl (Or.inl rfl) (aY aF (pv 1) aA (fun _ _=>rfl)))
  (ae (aV (dP (bQ (gM (pv 0) TG.cl cH hr1 ay (a8 (pv 2) aa)))) (ai (aw (aN (a8 (bW bw aA) aa)))) aB)
  (ae (aE (i:=3) nd rfl (Or.inl rfl) (aj cF hr rfl bb (a8 (aY aF (pv 1) aA (fun _ _=>rfl)) aa)))
  (ae (aV (bQ (aj cL hr1 rfl ay (a8 (pv 3) aa))) (ai (aw (aN (a8 (bW bw aA) aa)))) aB)
  (ae (aV (dP (bQ (aY aF (aj cT (hr.mono (by decide)) rfl ay (a8 (pv 0) (a8 (pv 3) aa))) (pv 2) (fun _ _=>rfl)))) (ai (aw (aN (a8 (bW bw aA) aa)))) aB)
  (ae (aV (dP (bQ (aj cW hr1 rfl ay (a8 (pv 3) aa)))) (ai (aw (aN (a8 (bW bw aA) aa)))) aB)
  (ae (aE (i:=4) nd rfl (Or.inl rfl) (aj cS (hr.mono (by decide)) rfl ay (a8 (pv 0) (a8 (pv 3) (a8 (pv 2) aa)))))
  (ai (aw (dD gS (aN (a8 aA (a8 (aG (pv 4) rfl) aa))) (aj cC hr1 rfl ay (a8 (aG (pv 4) rfl) aa))))))))))),?_⟩
 refine⟨_,rfl,ar,_,_,_,rfl,rfl,aH.of har,rfl,?_⟩;refine⟨_,rfl,a,dx,_,rfl,ho,rfl,_,rfl,a,lm,ln,g,i,rfl,G,_,rfl,?_⟩;refine de (fun h=>?_) (fun h=>?_)
 ·rw[L5,L6] at h;exact⟨_,rfl,fM,fun q hq=>k _ q _ (act _ (if_pos (by omega))) a9 (ah hq)⟩
 rw[L5,L6] at h;have ei:i < (g.length:Int):=by omega
 have hi:i.toNat < g.length:=by omega
 have ev:V.int i=nat i.toNat:=by show V.int i=V.int _;rw[Int.toNat_of_nonneg hi0.1]
 have act2:∀r,Vbavai.ofText ⟨g⟩ (Vbavai.ints bs) _=r->Vbavai.act ⟨g⟩ (.shows i (Vbavai.ints bs))=r:=fun r h=>act r ((if_neg (by omega)).trans h)
 refine⟨_,rfl,ar,_,_,_,rfl,rfl,aH.of har,rfl,t,bs,rfl,aH.of ht,hlen,hb,fun f hf H1 p hp s1=>?_,fun e he H1 dx hx s1=>kE H1 dx e (act2 _ (m8 _ he)) hx s1⟩;refine⟨_,rfl,p,_,rfl,hp.sz,_,rfl,?_⟩;refine de (fun h=>?_) (fun h=>?_)
 ·exact⟨_,rfl,fM,fun q hq=>k _ q _ (act2 _ (m3 _ hf (Lm h))) a9 (s1.trans (ah hq))⟩
 have h40:¬(40 < Vbavai.size f):=fun z=>h (Ll z);refine⟨_,rfl,_,rfl,a,p,lm,ln,g,f,rfl,G.same s1,GO,hp,by omega,fun H2 t2 b2 s2=>?_⟩
 have lf:=VM.bc g f;refine⟨_,rfl,t2,_,_,_,rfl,rfl,aH.of b2,(by rw[show i=((i.toNat:Nat):Int) from(Int.toNat_of_nonneg hi0.1).symm];exact vQ (by rw[lf];exact hi)),_,rfl,?_⟩
 refine de (fun h=>?_) (fun h=>?_)
 ·rw[L5] at h;exact⟨_,rfl,fM,fun q hq=>k _ q _ (act2 _ ((i9 _ hf h40).trans (by rw[if_pos h]))) a9 ((s1.trans s2).trans (ah hq))⟩
 rw[L5,Bool.not_eq_false] at h;refine⟨_,rfl,p,f,rfl,hp.same s2,fun H3 s3=>⟨_,rfl,?_⟩⟩;have s13:=(s1.trans s2).trans s3
 have wn:v9 f=false->Vbavai.shows g f i.toNat=none:=fun z=>by
  cases f<;>first | rfl | exact absurd (show true=false from z) (by decide)
 refine de (fun h2=>?_) (fun h2=>?_)
 ·rw[L5] at h2;exact⟨_,rfl,fM,fun q hq=>k _ q _ (act2 _ ((i9 _ hf h40).trans (by rw[if_neg (by rw[h];decide),wn h2]))) a9 (s13.trans (ah hq))⟩
 rw[L5,Bool.not_eq_false] at h2;rw[ev];refine⟨_,rfl,_,rfl,_,rfl,a,p,lm,ln,g,f,i.toNat,rfl,G.same s13,GO,(hp.same s2).same s3,by omega,hi,h,h2,fun H4 y w hw hwl hy s4=>?_⟩
 obtain⟨dy,ly,hy1,hy2⟩:=hy;refine⟨_,rfl,y,CY,dy,_,_,rfl,hy1,TY.cl,TY.nt,rfl,A6,fun q hq=>?_⟩;refine⟨_,rfl,y,CY,dy,_,_,rfl,bj hq hy1,TY.cl,TY.nn,rfl,ly,_,rfl,bj hq hy2,by rw[Kv];omega,fun H5 z hz s5=>?_⟩
 refine⟨q,z,_,_,rfl,rfl,s5 _ _ a9,hz,LR (br (by simp only[Kx,Kv,L0];omega)),fun u hu=>k _ u _ (act2 _ ((i9 _ hf h40).trans (by rw[if_neg (by rw[h];decide),hw]))) ?_ (((s13.trans s4).trans (ah hq)).trans (s5.trans (ah hu)))⟩
 show upd H5 u _ u=_;rw[a9,eY,KO];obtain⟨w1,w2⟩:=w;cases w2<;>rfl
theorem vM(F:aK K mg "form_call" kf)(cL:aS P w K mg base C 1 "too_large" ["formula"] (gJ CF))(cC:aS P w K mg base C 1 "counted" ["numbers"] cz)(cF:aS P w K mg base C 89 "formula_of" ["text"] (eR K C CF))
  (cO:aS P w K mg base C (40+2) "one_form" ["formula"] (pU CF 40)):aS P w K mg base C 90 "form_call" ["arguments"] (g0 CG C G6 (fun _=>True) vh):=by
 refine F.cal (k:=89) oC fun fa cdv A outer s H vs Q E hr h=>?_;obtain⟨a,ar,lm,ln,g,xs,c,rfl,G,GO,al,har,⟨t,bs,rfl,rfl,ht⟩,hc,k,kE⟩:=h;obtain⟨hlen,hb⟩:=iq hc;have nd:=oC.nd;have act:Vbavai.act ⟨g⟩ (.form (Vbavai.ints bs))=Vbavai.ofText ⟨g⟩ (Vbavai.ints bs) fun f=>Vbavai.listed (Vbavai.ints (Vbavai.form f)):=rfl
 refine⟨_,ae (aE (i:=1) nd rfl (Or.inl rfl) (aj cF hr rfl bb (a8 (aY aF (pv 0) aA (fun _ _=>rfl)) aa)))
  (ae (aV (bQ (aj cL (hr.mono (by decide)) rfl ay (a8 (pv 1) aa))) (ai (aw (aN (a8 (bW bw aA) aa)))) aB)
  (ai (aw (aj cC (hr.mono (by decide)) rfl ay (a8 (aj cO (hr.mono (by decide)) rfl ay (a8 (pv 1) aa)) aa))))),?_⟩
 refine⟨_,rfl,ar,_,_,_,rfl,rfl,aH.of har,rfl,t,bs,rfl,aH.of ht,hlen,hb,fun f hf H1 p hp s1=>?_,fun e he H1 dx hx s1=>kE H1 dx e (act.trans (m8 _ he)) hx s1⟩;refine⟨_,rfl,p,_,rfl,hp.sz,_,rfl,?_⟩;refine de (fun h=>?_) (fun h=>?_)
 ·exact⟨_,rfl,fM,fun q hq=>k _ q _ (act.trans (m3 _ hf (Lm h))) a9 (s1.trans (ah hq))⟩
 ·have h40:¬(40 < Vbavai.size f):=fun z=>h (Ll z);have fl:=VM.jU hp.fok;refine⟨_,rfl,p,f,rfl,hp,by omega,by decide,fun H2 l2 b2 s2=>?_⟩
  refine⟨l2,_,rfl,b2,by rw[Kv];omega,fun H3 l3 b3 s3=>k H3 l3 _ (act.trans (i9 _ hf h40)) ?_ ((s1.trans s2).trans s3)⟩
  show H3 l3=_;rw[b3,eY]
def eK:Vbavai.Call->Int
 | .node _=>0
 | .edge _ _=>1
 | .cut _ _=>2
 | .marks _ _=>3
 | .told _=>4
 | .holds _=>5
 | .shows _ _=>6
 | .form _=>7
 | .classes=>8
 | .apart _ _=>9
 | .quotient=>10
 | .same _ _=>11
def ll:Vbavai.Call->List AK
 | .node m=>[.marks m]
 | .edge a b=>[.node a,.node b]
 | .cut a b=>[.node a,.node b]
 | .marks a m=>[.node a,.marks m]
 | .told a=>[.node a]
 | .holds t=>[.text t]
 | .shows a t=>[.node a,.text t]
 | .form t=>[.text t]
 | .classes=>[]
 | .apart a b=>[.node a,.node b]
 | .quotient=>[]
 | .same t u=>[.text t,.text u]
theorem yF(c:Vbavai.Call):Vbavai.ranged c=(ll c).all AK.ok:=by
 cases c<;>simp[Vbavai.ranged,ll,AK.ok]
def K8:Vbavai.Call->List Int->Prop
 | .node m,xs=>xs=[m]
 | .edge a b,xs=>xs=[a,b]
 | .cut a b,xs=>xs=[a,b]
 | .marks a m,xs=>xs=[a,m]
 | .told a,xs=>xs=[a]
 | _,_=>False
def HM(g:Gr)(H:Hp)(xs:List V):Vbavai.Call->Prop
 | .holds t=>dO g∧pN H xs (.holds t)
 | .shows a t=>dO g∧pX H xs (.shows a t)
 | .form t=>vh H xs (.form t)
 | .classes=>dO g∧xs=[]
 | .apart a b=>dO g∧xs=[.int a,.int b]
 | .quotient=>dO g∧xs=[]
 | .same t u=>dO g∧vo H xs (.same t u)
 | _=>False
inductive vR(CG:Addr)(vs:List V)(H:Hp)(Q:VK)(z3_:XK):Prop
 | mk (a ar lm ln:Addr) (ns:List Addr) (g:Gr) (xs:List Int) (c:Vbavai.Call):vs=[.ref a,.int (eK c),.ref ar]->GX CG H a lm ln ns g->il g->D1 H ar xs->K8 c xs->Vbavai.ranged c=true->(∀(H':Hp)(p:Addr)(ns':List Addr),GX CG H' a lm ln ns' (Vbavai.act ⟨g⟩ c).1.g->D1 H' p (Vbavai.act ⟨g⟩ c).2->SG lm ln H H'->Q (.ref p) H')->vR CG vs H Q z3_
inductive nF(CG C:Addr)(vs:List V)(H:Hp)(Q:VK)(E:XK):Prop
 | mk (a ar lm ln:Addr) (g:Gr) (xs:List V) (c:Vbavai.Call):vs=[.ref a,.int (eK c),.ref ar]->nH CG H a lm ln g->il g->H ar=some (.lst xs)->HM g H xs c->Vbavai.ranged c=true->(∀(H':Hp)(p:Addr)(ans:List Int),Vbavai.act ⟨g⟩ c=(⟨g⟩,ans)->D1 H' p ans->aD H H'->Q (.ref p) H')->(∀(H':Hp)(dx:Addr)(e:Nat),Vbavai.act ⟨g⟩ c=(⟨g⟩,[-1000 - (e:Int)])->H' dx=some (.xd [("place",nat e)])->aD H H'->E (.ref C) (some dx) H')->nF CG C vs H Q E
theorem Ek(F:aK K mg "built" vJ)(c0:aS P w K mg base C 1 "node_call" ["graph","arguments"] (jh CG uI))(c1:aS P w K mg base C 2 "edge_call" ["graph","arguments"] (jh CG yo))(c2:aS P w K mg base C 2 "cut_call" ["graph","arguments"] (jh CG DA))
  (c3:aS P w K mg base C 2 "marks_call" ["graph","arguments"] (jh CG uO))(c4:aS P w K mg base C 2 "told_call" ["graph","arguments"] (jh CG yC)):aS P w K mg base C 3 "built" ["graph","number","arguments"] (vR CG):=by
 refine F.cal (k:=2) FK fun f cdv A outer s H vs Q E hr h=>?_;obtain⟨a,ar,lm,ln,ns,g,xs,c,rfl,G,GO,har,hm,hc,k⟩:=h
 refine⟨_,ae (aV (aI bV (pv 1) aA (aR _)) (ai (aw (aj c0 (hr.mono (by decide)) rfl ay (a8 (pv 0) (a8 (pv 2) aa))))) aB)
  (ae (aV (aI bV (pv 1) aA (aR _)) (ai (aw (aj c1 hr rfl ay (a8 (pv 0) (a8 (pv 2) aa))))) aB)
  (ae (aV (aI bV (pv 1) aA (aR _)) (ai (aw (aj c2 hr rfl ay (a8 (pv 0) (a8 (pv 2) aa))))) aB)
  (ae (aV (aI bV (pv 1) aA (aR _)) (ai (aw (aj c3 hr rfl ay (a8 (pv 0) (a8 (pv 2) aa))))) aB)
  (ai (aw (aj c4 hr rfl ay (a8 (pv 0) (a8 (pv 2) aa)))))))),?_⟩
 cases c with
 | node m =>
  cases hm;refine⟨_,rfl,rfl,_,rfl,gz (by rfl) ?_⟩
  exact⟨_,rfl,_,rfl,a,ar,lm,ln,ns,g,_,_,rfl,G,GO,har,⟨m,rfl,rfl⟩,hc,k⟩
 | edge x y =>
  cases hm;refine⟨_,rfl,rfl,_,rfl,bC (by rfl) ?_⟩
  refine⟨_,rfl,rfl,_,rfl,gz (by rfl) ?_⟩
  exact⟨_,rfl,_,rfl,a,ar,lm,ln,ns,g,_,_,rfl,G,GO,har,⟨x,y,rfl,rfl⟩,hc,k⟩
 | cut x y =>
  cases hm;refine⟨_,rfl,rfl,_,rfl,bC (by rfl) ?_⟩
  refine⟨_,rfl,rfl,_,rfl,bC (by rfl) ?_⟩
  refine⟨_,rfl,rfl,_,rfl,gz (by rfl) ?_⟩
  exact⟨_,rfl,_,rfl,a,ar,lm,ln,ns,g,_,_,rfl,G,GO,har,⟨x,y,rfl,rfl⟩,hc,k⟩
 | marks x y =>
  cases hm;refine⟨_,rfl,rfl,_,rfl,bC (by rfl) ?_⟩
  refine⟨_,rfl,rfl,_,rfl,bC (by rfl) ?_⟩
  refine⟨_,rfl,rfl,_,rfl,bC (by rfl) ?_⟩
  refine⟨_,rfl,rfl,_,rfl,gz (by rfl) ?_⟩
  exact⟨_,rfl,_,rfl,a,ar,lm,ln,ns,g,_,_,rfl,G,GO,har,⟨x,y,rfl,rfl⟩,hc,k⟩
 | told x =>
  cases hm;refine⟨_,rfl,rfl,_,rfl,bC (by rfl) ?_⟩
  refine⟨_,rfl,rfl,_,rfl,bC (by rfl) ?_⟩
  refine⟨_,rfl,rfl,_,rfl,bC (by rfl) ?_⟩
  refine⟨_,rfl,rfl,_,rfl,bC (by rfl) ?_⟩
  exact⟨_,rfl,_,rfl,a,ar,lm,ln,ns,g,_,_,rfl,G,GO,har,⟨x,rfl,rfl⟩,hc,k⟩
 | holds _=>exact hm.elim
 | shows _ _=>exact hm.elim
 | form _=>exact hm.elim
 | classes=>exact hm.elim
 | apart _ _=>exact hm.elim
 | quotient=>exact hm.elim
 | same _ _=>exact hm.elim
theorem Eh(F:aK K mg "asked" uU)(c5:aS P w K mg base C 90 "holds_call" ["graph","arguments"] (g0 CG C oA dO pN))(c6:aS P w K mg base C 90 "shows_call" ["graph","arguments"] (g0 CG C oA dO pX))
  (c7:aS P w K mg base C 90 "form_call" ["arguments"] (g0 CG C G6 (fun _=>True) vh))(c8:aS P w K mg base C 5 "classes_call" ["graph"] (g0 CG C vT dO tu))(c9:aS P w K mg base C 90 "apart_call" ["graph","arguments"] (g0 CG C oA dO vq))
  (c10:aS P w K mg base C 5 "quotient_call" ["graph"] (g0 CG C vT dO Co))(c11:aS P w K mg base C 90 "same_call" ["graph","arguments"] (g0 CG C oA dO vo)):aS P w K mg base C 91 "asked" ["graph","number","arguments"] (nF CG C):=by
 refine F.cal (k:=90) Fy fun f cdv A outer s H vs Q E hr h=>?_;obtain⟨a,ar,lm,ln,g,xs,c,rfl,G,GO,har,hm,hc,k,kE⟩:=h
 refine⟨_,ae (aV (aI bV (pv 1) aA (aR _)) (ai (aw (aj c5 hr rfl bb (a8 (pv 0) (a8 (pv 2) aa))))) aB)
  (ae (aV (aI bV (pv 1) aA (aR _)) (ai (aw (aj c6 hr rfl bb (a8 (pv 0) (a8 (pv 2) aa))))) aB)
  (ae (aV (aI bV (pv 1) aA (aR _)) (ai (aw (aj c7 hr rfl bb (a8 (pv 2) aa)))) aB)
  (ae (aV (aI bV (pv 1) aA (aR _)) (ai (aw (aj c8 (hr.mono (by decide)) rfl bb (a8 (pv 0) aa)))) aB)
  (ae (aV (aI bV (pv 1) aA (aR _)) (ai (aw (aj c9 hr rfl bb (a8 (pv 0) (a8 (pv 2) aa))))) aB)
  (ae (aV (aI bV (pv 1) aA (aR _)) (ai (aw (aj c10 (hr.mono (by decide)) rfl bb (a8 (pv 0) aa)))) aB)
  (ai (aw (aj c11 hr rfl bb (a8 (pv 0) (a8 (pv 2) aa)))))))))),?_⟩
 cases c with
 | node _=>exact hm.elim
 | edge _ _=>exact hm.elim
 | cut _ _=>exact hm.elim
 | marks _ _=>exact hm.elim
 | told _=>exact hm.elim
 | holds t =>
  refine⟨_,rfl,rfl,_,rfl,gz (by rfl) ?_⟩
  exact⟨_,rfl,_,rfl,a,ar,lm,ln,g,xs,_,rfl,G,GO,hm.1,har,hm.2,hc,k,kE⟩
 | shows x t =>
  refine⟨_,rfl,rfl,_,rfl,bC (by rfl) ?_⟩
  refine⟨_,rfl,rfl,_,rfl,gz (by rfl) ?_⟩
  exact⟨_,rfl,_,rfl,a,ar,lm,ln,g,xs,_,rfl,G,GO,hm.1,har,hm.2,hc,k,kE⟩
 | form t =>
  refine⟨_,rfl,rfl,_,rfl,bC (by rfl) ?_⟩
  refine⟨_,rfl,rfl,_,rfl,bC (by rfl) ?_⟩
  refine⟨_,rfl,rfl,_,rfl,gz (by rfl) ?_⟩
  exact⟨_,rfl,a,ar,lm,ln,g,xs,_,rfl,G,GO,trivial,har,hm,hc,k,kE⟩
 | classes =>
  refine⟨_,rfl,rfl,_,rfl,bC (by rfl) ?_⟩
  refine⟨_,rfl,rfl,_,rfl,bC (by rfl) ?_⟩
  refine⟨_,rfl,rfl,_,rfl,bC (by rfl) ?_⟩
  refine⟨_,rfl,rfl,_,rfl,gz (by rfl) ?_⟩
  exact⟨_,rfl,a,ar,lm,ln,g,xs,_,rfl,G,GO,hm.1,har,⟨hm.2,rfl⟩,hc,k,kE⟩
 | apart x y =>
  refine⟨_,rfl,rfl,_,rfl,bC (by rfl) ?_⟩
  refine⟨_,rfl,rfl,_,rfl,bC (by rfl) ?_⟩
  refine⟨_,rfl,rfl,_,rfl,bC (by rfl) ?_⟩
  refine⟨_,rfl,rfl,_,rfl,bC (by rfl) ?_⟩
  refine⟨_,rfl,rfl,_,rfl,gz (by rfl) ?_⟩
  exact⟨_,rfl,_,rfl,a,ar,lm,ln,g,xs,_,rfl,G,GO,hm.1,har,⟨x,y,hm.2,rfl⟩,hc,k,kE⟩
 | quotient =>
  refine⟨_,rfl,rfl,_,rfl,bC (by rfl) ?_⟩
  refine⟨_,rfl,rfl,_,rfl,bC (by rfl) ?_⟩
  refine⟨_,rfl,rfl,_,rfl,bC (by rfl) ?_⟩
  refine⟨_,rfl,rfl,_,rfl,bC (by rfl) ?_⟩
  refine⟨_,rfl,rfl,_,rfl,bC (by rfl) ?_⟩
  refine⟨_,rfl,rfl,_,rfl,gz (by rfl) ?_⟩
  exact⟨_,rfl,a,ar,lm,ln,g,xs,_,rfl,G,GO,hm.1,har,⟨hm.2,rfl⟩,hc,k,kE⟩
 | same t u =>
  refine⟨_,rfl,rfl,_,rfl,bC (by rfl) ?_⟩
  refine⟨_,rfl,rfl,_,rfl,bC (by rfl) ?_⟩
  refine⟨_,rfl,rfl,_,rfl,bC (by rfl) ?_⟩
  refine⟨_,rfl,rfl,_,rfl,bC (by rfl) ?_⟩
  refine⟨_,rfl,rfl,_,rfl,bC (by rfl) ?_⟩
  refine⟨_,rfl,rfl,_,rfl,bC (by rfl) ?_⟩
  exact⟨_,rfl,_,rfl,a,ar,lm,ln,g,xs,_,rfl,G,GO,hm.1,har,hm.2,hc,k,kE⟩
section
variable{prog:Program}{w:World}{A:Around}{E:Value->Shared->Prop}{s:Shared}
theorem AA{j u:Addr}{n:Nat}{vs:Array Value}{v:Value}{Q:Value->Shared->Prop}(J:s.heap.IsTupleIter j u n)(U:s.heap.IsTuple u vs)(hv:vs[n]?=some v)
  (k:∀h',h'.IsTupleIter j u (n+1)->Heap.SameBut j s.heap h'->Q v {s with heap:=h'}):wpAny (model prog w) A (Builtin.SmallTypes.nextOf (.ref j)) Q E s:=by
 obtain⟨jo,g1,c1,d1⟩:=id J;obtain⟨uo,g2,_,un,d2⟩:=U;unfold Builtin.SmallTypes.nextOf;refine wpAny_bind (wpAny_callSpecial?_slot (name:=Str.ofString "__next__") J.typeIs PySem.F.slot_tuple_iterator_next (wpAny_call_entry PySem.F.slot_tuple_iterator_next J.typeIs PySem.F.entry_tuple_iterator_next ?_ (PySem.F.args_tuple_iterator_next_1 _)));show wpAny _ _ (field (.ref j) 0 >>= _) _ _ s;refine wpAny_bind (wpAny_field g1 d1 (x:=.ref u) rfl ?_);show wpAny _ _ (if(Value.ref u==Value.none)=true then _ else _) _ _ s;rw[if_neg (show ¬((Value.ref u==Value.none)=true) from KM)]
 show wpAny _ _ (field (.ref j) 1 >>= _) _ _ s;refine wpAny_bind (wpAny_field g1 d1 (x:=.int n 0) rfl ?_);show wpAny _ _ (seqItems? (.ref u) >>= _) _ _ s;refine wpAny_bind (wpAny_seqItems g2 d2 ?_);simp only[Lk,hv];refine wpAny_bind (wpAny_setField g1 d1 (by simp) (wpAny_pure ⟨v,rfl,wpAny_pure (k _ ⟨_,Lw _ g1 (Lx (Obj.data_mapFields d1 _)),(Obj.cls_mapFields ..).trans c1,by rw[Obj.data_mapFields d1];simp[rawInt]⟩ (Heap.SameBut.update ..))⟩))
theorem Fb{j u:Addr}{n:Nat}{vs:Array Value}{Q:Value->Shared->Prop}(calm:A.handled=none)(J:s.heap.IsTupleIter j u n)(U:s.heap.IsTuple u vs)(hv:vs[n]?=none)
  (k:∀h' e,Heap.ExtBut j s.heap h'->(∃o,h'.get? e=some o∧o.cls=.type "StopIteration")->E (.ref e) {s with heap:=h'}):wpAny (model prog w) A (Builtin.SmallTypes.nextOf (.ref j)) Q E s:=by
 obtain⟨jo,g1,c1,d1⟩:=id J;obtain⟨uo,g2,_,un,d2⟩:=U;unfold Builtin.SmallTypes.nextOf;refine wpAny_bind (wpAny_callSpecial?_slot (name:=Str.ofString "__next__") J.typeIs PySem.F.slot_tuple_iterator_next (wpAny_call_entry PySem.F.slot_tuple_iterator_next J.typeIs PySem.F.entry_tuple_iterator_next ?_ (PySem.F.args_tuple_iterator_next_1 _)));show wpAny _ _ (field (.ref j) 0 >>= _) _ _ s;refine wpAny_bind (wpAny_field g1 d1 (x:=.ref u) rfl ?_);show wpAny _ _ (if(Value.ref u==Value.none)=true then _ else _) _ _ s;rw[if_neg (show ¬((Value.ref u==Value.none)=true) from KM)]
 show wpAny _ _ (field (.ref j) 1 >>= _) _ _ s;refine wpAny_bind (wpAny_field g1 d1 (x:=.int n 0) rfl ?_);show wpAny _ _ (seqItems? (.ref u) >>= _) _ _ s;refine wpAny_bind (wpAny_seqItems g2 d2 ?_);simp only[Lk,hv];refine wpAny_bind (wpAny_rule (wpAny_bind (wpAny_setField g1 d1 (by simp) ?_)));show wpAny _ _ (newExc (.type "StopIteration") [] >>= _) _ _ _
 refine wpAny_bind ?_;simp only[newExc,newTuple];refine wpAny_bind (wpAny_newObj_type ?_ (by size_fits))
 refine wpAny_bind (m:=firstArgMember _ _) (wpAny_of_eq (a:=Value.none) (by first | rfl | (simp only[firstArgMember];rfl)) (wpAny_newObj_type ?_ (by size_fits)))
 simp only[raiseNew];refine wpAny_bind (wpAny_handled ?_)
 first | rw[show A.in1.handled=none from calm] | rw[calm]
 exact wpAny_bind (wpAny_pure (wpAny_throw (k _ _ (((Heap.SameBut.update ..).extBut.push _).push _) ⟨_,KD _ rfl,rfl⟩)))
theorem za{z TI TO i j u l:Addr}{n m:Nat}{xs ys:Array Value}{x y a b:Value}{Q:Value->Shared->Prop}(D:ZipApart z TI TO i j u l)
  (Z:IsZip s.heap z TI TO .none)(PI:IsPair s.heap TI (.ref i) (.ref j))(PO:IsPair s.heap TO a b)(J1:s.heap.IsTupleIter i u n)(J2:s.heap.IsListIter j l m)(U:s.heap.IsTuple u xs)(L:s.heap.IsList l ys)(hx:xs[n]?=some x)(hy:ys[m]?=some y)
  (k:∀h',IsZip h' z TI TO (rawInt s.heap.objs.size)->IsPair h' TO x y->h'.IsTupleIter i u (n+1)->h'.IsListIter j l (m+1)->IsPair h' s.heap.objs.size x y->h'.objs.size=s.heap.objs.size+1 →
   (∀c o,c≠z->c≠TO->c≠i->c≠j->s.heap.get? c=some o->h'.get? c=some o)->Q (.ref s.heap.objs.size) {s with heap:=h'}) :
  wpAny (model prog w) A (Builtin.«zip.__next__» ⟨[.ref z],[]⟩) (fun fin s'=>∃v,fin=.done (.ret v)∧Q v s') E s:=by
 show wpAny _ _ (field (.ref z) 2 >>= _) _ _ _;refine wpAny_bind (wpAny_field Z rfl (x:=.bool false) rfl ?_);show wpAny _ _ (field (.ref z) 3 >>= _) _ _ _;refine wpAny_bind (wpAny_field Z rfl (x:=.ref TI) rfl (wpAny_bind (wpAny_seqItems PI rfl ?_)));show wpAny _ _ (Builtin.SmallTypes.ownedTupleIsFree (.ref z) >>= _) _ _ _;refine wpAny_bind ?_;unfold Builtin.SmallTypes.ownedTupleIsFree;refine wpAny_bind (wpAny_field Z rfl (x:=.none) rfl (wpAny_pure ?_));simp only[if_true];refine wpAny_bind (wpAny_rule (wpAny_bind (wpAny_field Z rfl (x:=.ref TO) rfl (wpAny_bind (wpAny_setField_rec Z (by simp) fun k1 Z1 s1=>?_)))))
 replace Z1:IsZip k1 z TI TO .ellipsis:=Z1;refine wpAny_bind ?_
 simp only[List.zipIdx_cons,List.zipIdx_nil,List.forIn_cons,List.forIn_nil];refine wpAny_bind (wpAny_bind (wpAny_onRaise ?_));show wpAny _ _ (Builtin.SmallTypes.nextOf (.ref i) >>= _) _ _ _;refine wpAny_bind (AA (J1.extBut s1.extBut D.i1z) (U.extBut s1.extBut D.l1z) hx fun k2 J12 s2=>wpAny_pure ?_);have PO2:IsPair k2 TO a b:=s2.extBut _ _ D.TOi1 (s1.extBut _ _ D.TOz PO);refine wpAny_bind (wpAny_seqItems PO2 rfl (wpAny_bind (wpAny_updateSeq_pair PO2 fun k3 PO3 s3=>?_)))
 replace PO3:IsPair k3 TO x b:=PO3;refine wpAny_bind (wpAny_letGo (wpAny_pure (wpAny_bind (wpAny_bind (wpAny_onRaise ?_)))))
 show wpAny _ _ (Builtin.SmallTypes.nextOf (.ref j) >>= _) _ _ _;refine wpAny_bind (wpAny_nextOf_list_item (((J2.extBut s1.extBut D.i2z).extBut s2.extBut D.i12.symm).extBut s3.extBut D.TOi2.symm) (((L.extBut s1.extBut D.l2z).extBut s2.extBut D.l2i1).extBut s3.extBut D.l2TO) hy fun k4 J24 s4=>wpAny_pure ?_);have PO4:IsPair k4 TO x b:=s4.extBut _ _ D.TOi2 PO3;refine wpAny_bind (wpAny_seqItems PO4 rfl (wpAny_bind (wpAny_updateSeq_pair PO4 fun k5 PO5 s5=>?_)))
 replace PO5:IsPair k5 TO x y:=PO5;refine wpAny_bind (wpAny_letGo (wpAny_pure (wpAny_pure (wpAny_bind (wpAny_seqItems PO5 rfl (wpAny_bind (wpAny_newTuple ?_)))))))
 have e5:k5.objs.size=s.heap.objs.size:=by rw[s5.1,s4.1,s3.1,s2.1,s1.1]
 have Z5:IsZip k5 z TI TO .ellipsis:=s5.extBut _ _ D.TOz.symm (s4.extBut _ _ D.i2z.symm (s3.extBut _ _ D.TOz.symm (s2.extBut _ _ D.i1z.symm Z1)));have keep5:∀c o,c≠z->c≠TO->c≠i->c≠j->s.heap.get? c=some o->k5.get? c=some o:=fun c o n1 n2 n3 n4 e=>s5.extBut _ _ n2 (s4.extBut _ _ n4 (s3.extBut _ _ n2 (s2.extBut _ _ n3 (s1.extBut _ _ n1 e))));have J15:k5.IsTupleIter i u (n+1):=((J12.extBut s3.extBut D.TOi1.symm).extBut s4.extBut D.i12).extBut s5.extBut D.TOi1.symm;have J25:k5.IsListIter j l (m+1):=J24.extBut s5.extBut D.TOi2.symm;have zlt:z < k5.objs.size:=KC Z5;show wpAny _ _ (Builtin.SmallTypes.ownedTupleHandOut (.ref z) (.ref k5.objs.size) >>= _) _ _ _;refine wpAny_bind ?_;unfold Builtin.SmallTypes.ownedTupleHandOut;have Z6:IsZip (k5.push {cls:=.type "tuple",data:=.seq #[x,y]}) z TI TO .ellipsis:=KB _ Z5;refine wpAny_bind (wpAny_setField_rec Z6 (by simp) fun k7 Z7 s7=>?_)
 replace Z7:IsZip k7 z TI TO (rawInt k5.objs.size):=Z7;refine wpAny_setField_rec Z7 (by simp) fun k8 Z8 s8=>?_
 replace Z8:IsZip k8 z TI TO (rawInt k5.objs.size):=Z8
 have lift:∀c o,c≠z->k5.get? c=some o->k8.get? c=some o:=fun c o n1 e=>s8.extBut _ _ n1 (s7.extBut _ _ n1 (KB _ e));have P8:IsPair k8 k5.objs.size x y:=s8.extBut _ _ (LN zlt) (s7.extBut _ _ (LN zlt) (KD _ rfl));have e8:k8.objs.size=k5.objs.size+1:=by rw[s8.1,s7.1,LP]
 rw[e5] at Z8 P8 e8;refine wpAny_pure ⟨_,rfl,?_⟩;show Q (.ref k5.objs.size) _;rw[e5];exact k k8 Z8 (lift _ _ D.TOz PO5) (J15.at fun o e=>lift _ o D.i1z e) (J25.at fun o e=>lift _ o D.i2z e) P8 e8 fun c o n1 n2 n3 n4 e=>lift c o n1 (keep5 c o n1 n2 n3 n4 e)
theorem yj{z TI TO i j u l:Addr}{n m:Nat}{xs ys:Array Value}{a b:Value}{Q:Fin->Shared->Prop}(calm:A.handled=none)(D:ZipApart z TI TO i j u l)
  (Z:IsZip s.heap z TI TO .none)(PI:IsPair s.heap TI (.ref i) (.ref j))(PO:IsPair s.heap TO a b)(J1:s.heap.IsTupleIter i u n)(J2:s.heap.IsListIter j l m)(U:s.heap.IsTuple u xs)(L:s.heap.IsList l ys)(he:xs[n]?=none∨ys[m]?=none)
  (k:∀h' e,(∀c o,c≠z->c≠TO->c≠i->c≠j->s.heap.get? c=some o->h'.get? c=some o)->(∃o,h'.get? e=some o∧o.cls=.type "StopIteration")->E (.ref e) {s with heap:=h'}) :
  wpAny (model prog w) A (Builtin.«zip.__next__» ⟨[.ref z],[]⟩) Q E s:=by
 show wpAny _ _ (field (.ref z) 2 >>= _) _ _ _;refine wpAny_bind (wpAny_field Z rfl (x:=.bool false) rfl ?_);show wpAny _ _ (field (.ref z) 3 >>= _) _ _ _;refine wpAny_bind (wpAny_field Z rfl (x:=.ref TI) rfl (wpAny_bind (wpAny_seqItems PI rfl ?_)));show wpAny _ _ (Builtin.SmallTypes.ownedTupleIsFree (.ref z) >>= _) _ _ _;refine wpAny_bind ?_;unfold Builtin.SmallTypes.ownedTupleIsFree;refine wpAny_bind (wpAny_field Z rfl (x:=.none) rfl (wpAny_pure ?_));simp only[if_true];refine wpAny_bind (wpAny_rule (wpAny_bind (wpAny_field Z rfl (x:=.ref TO) rfl (wpAny_bind (wpAny_setField_rec Z (by simp) fun k1 Z1 s1=>?_)))))
 replace Z1:IsZip k1 z TI TO .ellipsis:=Z1;refine wpAny_bind ?_
 simp only[List.zipIdx_cons,List.zipIdx_nil,List.forIn_cons,List.forIn_nil];refine wpAny_bind (wpAny_bind (wpAny_onRaise ?_));show wpAny _ _ (Builtin.SmallTypes.nextOf (.ref i) >>= _) _ _ _;cases hx:xs[n]? with
 | none =>
  refine wpAny_bind (Fb calm (J1.extBut s1.extBut D.i1z) (U.extBut s1.extBut D.l1z) hx fun k2 e s2 ⟨oe,g,ce⟩=>?_);have Z2:IsZip k2 z TI TO .ellipsis:=s2 _ _ D.i1z.symm Z1;have ez:e≠z:=fun q=>by subst q;rw[Z2] at g;cases g;simp at ce
  exact wpAny_setField_rec Z2 (by simp) fun k3 _ s3=>k k3 e (fun c o n1 _ n3 _ q=>s3.extBut _ _ n1 (s2 _ _ n3 (s1.extBut _ _ n1 q))) ⟨oe,s3.extBut _ _ ez g,ce⟩
 | some x =>
  have hy:ys[m]?=none:=he.resolve_left (by rw[hx];exact fun q=>nomatch q)
  refine wpAny_bind (AA (J1.extBut s1.extBut D.i1z) (U.extBut s1.extBut D.l1z) hx fun k2 J12 s2=>wpAny_pure ?_);have PO2:IsPair k2 TO a b:=s2.extBut _ _ D.TOi1 (s1.extBut _ _ D.TOz PO);refine wpAny_bind (wpAny_seqItems PO2 rfl (wpAny_bind (wpAny_updateSeq_pair PO2 fun k3 PO3 s3=>wpAny_bind (wpAny_letGo (wpAny_pure (wpAny_bind (wpAny_bind (wpAny_onRaise ?_))))))));show wpAny _ _ (Builtin.SmallTypes.nextOf (.ref j) >>= _) _ _ _;refine wpAny_bind (wpAny_nextOf_list_end calm (((J2.extBut s1.extBut D.i2z).extBut s2.extBut D.i12.symm).extBut s3.extBut D.TOi2.symm) (((L.extBut s1.extBut D.l2z).extBut s2.extBut D.l2i1).extBut s3.extBut D.l2TO) hy fun k4 e s4 ⟨oe,g,ce⟩=>?_);have Z4:IsZip k4 z TI TO .ellipsis:=s4 _ _ D.i2z.symm (s3.extBut _ _ D.TOz.symm (s2.extBut _ _ D.i1z.symm Z1));have ez:e≠z:=fun q=>by subst q;rw[Z4] at g;cases g;simp at ce
  exact wpAny_setField_rec Z4 (by simp) fun k5 _ s5=>k k5 e (fun c o n1 n2 n3 n4 q=>s5.extBut _ _ n1 (s4 _ _ n4 (s3.extBut _ _ n2 (s2.extBut _ _ n3 (s1.extBut _ _ n1 q))))) ⟨oe,s5.extBut _ _ ez g,ce⟩
theorem yV{z TI TO i j u l:Addr}{n m:Nat}{xs ys:Array Value}{x y a b:Value}{Q:Option Value->Shared->Prop}(D:ZipApart z TI TO i j u l)
  (Z:IsZip s.heap z TI TO .none)(PI:IsPair s.heap TI (.ref i) (.ref j))(PO:IsPair s.heap TO a b)(J1:s.heap.IsTupleIter i u n)(J2:s.heap.IsListIter j l m)(U:s.heap.IsTuple u xs)(L:s.heap.IsList l ys)(hx:xs[n]?=some x)(hy:ys[m]?=some y)
  (k:∀h',IsZip h' z TI TO (rawInt s.heap.objs.size)->IsPair h' TO x y->h'.IsTupleIter i u (n+1)->h'.IsListIter j l (m+1)->IsPair h' s.heap.objs.size x y->h'.objs.size=s.heap.objs.size+1 →
   (∀c o,c≠z->c≠TO->c≠i->c≠j->s.heap.get? c=some o->h'.get? c=some o)->Q (some (.ref s.heap.objs.size)) {s with heap:=h'}):wpAny (model prog w) A (pyNext (.ref z)) Q E s:=by
 have ty:s.TypeIs (.ref z) "zip":=⟨_,Z,rfl⟩;unfold pyNext
 exact wpAny_bind (wpAny_attempt (wpAny_callSpecial?_slot (name:=Str.ofString "__next__") ty PySem.F.slot_zip_next (wpAny_call_entry PySem.F.slot_zip_next ty PySem.F.entry_zip_next
  (za D Z PI PO J1 J2 U L hx hy fun h' a1 a2 a3 a4 a5 a6 a7=>wpAny_pure (k h' a1 a2 a3 a4 a5 a6 a7)) (PySem.F.args_zip_next_1 _))))
theorem zu{z TI TO i j u l:Addr}{n m:Nat}{xs ys:Array Value}{a b:Value}{Q:Option Value->Shared->Prop}(calm:A.handled=none)(D:ZipApart z TI TO i j u l)
  (Z:IsZip s.heap z TI TO .none)(PI:IsPair s.heap TI (.ref i) (.ref j))(PO:IsPair s.heap TO a b)(J1:s.heap.IsTupleIter i u n)(J2:s.heap.IsListIter j l m)(U:s.heap.IsTuple u xs)(L:s.heap.IsList l ys)(he:xs[n]?=none∨ys[m]?=none)
  (k:∀h',(∀c o,c≠z->c≠TO->c≠i->c≠j->s.heap.get? c=some o->h'.get? c=some o)->Q none {s with heap:=h'}):wpAny (model prog w) A (pyNext (.ref z)) Q E s:=by
 have ty:s.TypeIs (.ref z) "zip":=⟨_,Z,rfl⟩;unfold pyNext;refine wpAny_bind (wpAny_attempt (wpAny_callSpecial?_slot (name:=Str.ofString "__next__") ty PySem.F.slot_zip_next (wpAny_call_entry PySem.F.slot_zip_next ty PySem.F.entry_zip_next (yj calm D Z PI PO J1 J2 U L he fun h' e kk ⟨o,g,ce⟩=>?_) (PySem.F.args_zip_next_1 _))));exact wpAny_bind (wpAny_isInstance (T:="StopIteration") (b:=true) ⟨o,g,ce⟩ isSubtype_stop (wpAny_pure (k _ kk)))
end
abbrev IX(h:Heap)(u:Addr):Heap:=h.push {cls:=.type "tuple_iterator",data:=.fields #[.ref u,.int 0 0]}
abbrev Ji(h:Heap)(u l:Addr):Heap:=(IX h u).push {cls:=.type "list_iterator",data:=.fields #[.ref l,.int 0 0]}
abbrev Jl(h:Heap)(u l:Addr):Heap:=(Ji h u l).push {cls:=.type "tuple",data:=.seq #[.ref h.objs.size,.ref (IX h u).objs.size]}
abbrev Jj(h:Heap)(u l:Addr):Heap:=(Jl h u l).push {cls:=.type "tuple",data:=.seq #[.none,.none]}
abbrev HL(h:Heap)(u l:Addr):Heap:=(Jj h u l).push {cls:=.type "zip",data:=.fields #[.none,.bool false,.bool false,.ref (Ji h u l).objs.size,.ref (Jl h u l).objs.size]}
theorem wy(u l:Addr)(xs ys:Array Value) :
  Meets (Builtin.«zip.__new__» ⟨[.type "zip",.ref u,.ref l],[]⟩) (fun _ R s=>s.heap.IsTuple u xs∧s.heap.IsList l ys∧R (.ok (.ret (.ref (Jj s.heap u l).objs.size))) {s with heap:=HL s.heap u l}) :=
 .of_wp fun prog w A R s hh=>by
  obtain⟨hp,g,d,tk,os⟩:=s;obtain⟨U,L,fin⟩:=hh;have hsub:=sub_zip;have U1:Heap.IsTuple (Shared.heap ⟨hp,g,d,tk,os⟩) u xs:=U;have L1:Heap.IsList (Shared.heap ⟨IX hp u,g,d,tk,os⟩) l ys:=Heap.IsList.push L _
  wp_walk using wpAny_pyIter_tuple U1,wpAny_pyIter_list L1
  exact⟨_,rfl,fin⟩
section
variable{prog:Program}{w:World}{A:Around}{E:Value->Shared->Prop}{s:Shared}
theorem zC{u l:Addr}{xs ys:Array Value}{Q:Value->Shared->Prop}(U:s.heap.IsTuple u xs)(L:s.heap.IsList l ys)
  (k:∀h',IsZip h' (s.heap.objs.size+4) (s.heap.objs.size+2) (s.heap.objs.size+3) .none->IsPair h' (s.heap.objs.size+2) (.ref s.heap.objs.size) (.ref (s.heap.objs.size+1)) →
   IsPair h' (s.heap.objs.size+3) .none .none->h'.IsTupleIter s.heap.objs.size u 0->h'.IsListIter (s.heap.objs.size+1) l 0->(∀c o,s.heap.get? c=some o->h'.get? c=some o)->Q (.ref (s.heap.objs.size+4)) {s with heap:=h'}) :
  wpAny (model prog w) A (call (.type "zip") [.ref u,.ref l]) Q E s:=by
 refine callType_new PySem.F.called_zip (by decide) (PySem.F.typeCall_zip_2 _ _) (PySem.F.newCall_zip_2 _ _) (fun obj=>PySem.F.args_object_init_3 obj _ _) PySem.F.entry_zip_new (wy u l xs ys) ⟨U,L,?_⟩
 have e1:(IX s.heap u).objs.size=s.heap.objs.size+1:=LP ..;have e2:(Ji s.heap u l).objs.size=s.heap.objs.size+2:=by rw[LP,e1]
 have e3:(Jl s.heap u l).objs.size=s.heap.objs.size+3:=by rw[LP,e2]
 have e4:(Jj s.heap u l).objs.size=s.heap.objs.size+4:=by rw[LP,e3]
 have f5:(HL s.heap u l).get? (Jj s.heap u l).objs.size=some _:=KD _ rfl;have f4:(HL s.heap u l).get? (Jl s.heap u l).objs.size=some _:=KB _ (KD _ rfl);have f3:(HL s.heap u l).get? (Ji s.heap u l).objs.size=some _:=KB _ (KB _ (KD _ rfl));have f2:(HL s.heap u l).get? (IX s.heap u).objs.size=some _:=KB _ (KB _ (KB _ (KD _ rfl)));have f1:(HL s.heap u l).get? s.heap.objs.size=some _:=KB _ (KB _ (KB _ (KB _ (KD _ rfl))));show _∧_;rw[e2,e3,e4] at f5;rw[e1,e2] at f3;rw[e3] at f4;rw[e1] at f2;rw[e4];exact⟨⟨_,f5,rfl⟩,k _ f5 f3 f4 ⟨_,f1,rfl,rfl⟩ ⟨_,f2,rfl,rfl⟩ fun c o q=>KB _ (KB _ (KB _ (KB _ (KB _ q))))⟩
end
def Eo(K:Frag)(a b:Addr):It :=
 ⟨fun i H=>∃(xs ys:List V)(x y:V),eB K H a xs∧aH K H b ys∧xs[i]?=some x∧ys[i]?=some y,
  fun i H v H'=>∃T x y,v=.ref T∧H T=none∧H'=upd H T (.tup [x,y])∧(∀xs,eB K H a xs->xs[i]?=some x)∧∀ys,aH K H b ys->ys[i]?=some y,
  fun i H=>∃xs ys:List V,eB K H a xs∧aH K H b ys∧(xs.length≤i∨ys.length≤i)⟩
theorem BC{P:Program}{w:World}{K:Frag}{elts:List Expr}{kk:Nat}{tpos:Pos}{a b z TI TO j1 j2:Addr}(D:ZipApart z TI TO j1 j2 a b) :
  sx P w K (.Tuple elts kk tpos) (Eo K a b) [z,TI,TO,j1,j2] z (fun n h=>IsZip h z TI TO .none∧IsPair h TI (.ref j1) (.ref j2)∧(∃x y,IsPair h TO x y)∧h.IsTupleIter j1 a n∧h.IsListIter j2 b n) where
 mem:=by simp
 obj:=fun n h st c hc=>by
  obtain⟨Z,PI,⟨x,y,PO⟩,⟨o1,e1,_,d1⟩,⟨o2,e2,_,d2⟩⟩:=st;have cs:c=z∨c=TI∨c=TO∨c=j1∨c=j2:=by simpa using hc
  rcases cs with rfl | rfl | rfl | rfl | rfl
  ·exact⟨_,Z,fun v q=>nomatch q⟩
  ·exact⟨_,PI,fun v q=>nomatch q⟩
  ·exact⟨_,PO,fun v q=>nomatch q⟩
  ·exact⟨o1,e1,fun v q=>by rw[d1] at q;cases q⟩
  ·exact⟨o2,e2,fun v q=>by rw[d2] at q;cases q⟩
 keep:=fun n h h' ⟨Z,PI,⟨x,y,PO⟩,J1,J2⟩ k=>⟨k z (by simp) _ Z,k TI (by simp) _ PI,⟨x,y,k TO (by simp) _ PO⟩,J1.at fun o q=>k j1 (by simp) o q,J2.at fun o q=>k j2 (by simp) o q⟩
 item:=by
  rintro X hP hw hK calm n pins s σ H E I hf ⟨Z,PI,⟨x0,y0,PO⟩,J1,J2⟩ ⟨xs,ys,x,y,qx,qy,hx,hy⟩;subst hP hw hK;obtain⟨vs,r1,U,_⟩:=I.tuple qx;obtain⟨us,r2,L,_⟩:=I.list qy;obtain⟨v,hv,rv⟩:=r1.get hx;obtain⟨u,hu,ru⟩:=r2.get hy;have zlt:z < s.heap.objs.size:=KC Z;refine yV D Z PI PO J1 J2 (show s.heap.IsTuple a vs.toArray from U) L.isList (x:=v) (y:=u) (by simpa using hv) (by simpa using hu) fun h' Z' PO' J1' J2' PT sz kp=>⟨_,rfl,wpAny_letOwnedTupleGo_zip (s:={s with heap:=h'}) Z' fun h'' Z'' sb=>?_⟩
  have PT2:h''.get? s.heap.objs.size=some {cls:=.type "tuple",data:=.seq #[v,u]}:=(sb.2 _ (LN zlt)).trans PT
  have I1:aM X pins σ (upd H s.heap.objs.size (.tup [x,y])) {s with heap:=h''}:=I.turnedNew (t':=s.toks) (ch:=[z,TI,TO,j1,j2])
   (fun c o nc q=>(sb.2 c (fun e=>nc (by simp[e]))).trans (kp c o (fun e=>nc (by simp[e])) (fun e=>nc (by simp[e])) (fun e=>nc (by simp[e])) (fun e=>nc (by simp[e])) q)) hf (KG _) ⟨by show 2≤sizeLine;decide,[v,u],.cons rv (.cons ru .nil),⟨_,PT2,rfl,_,rfl⟩⟩
  refine⟨.ref s.heap.objs.size,_,I1,rfl,⟨_,x,y,rfl,I.hok.fresh (KG _),rfl,fun t ht=>by rw[I.tuple_inj ht qx];exact hx,fun t ht=>by rw[I.list_inj ht qy];exact hy⟩,
   ⟨Z'',(sb.2 _ D.TIz).trans (kp _ _ D.TIz D.TITO D.TIi1 D.TIi2 PI),⟨v,u,(sb.2 _ D.TOz).trans PO'⟩,J1'.at fun o q=>(sb.2 _ D.i1z).trans q,J2'.at fun o q=>(sb.2 _ D.i2z).trans q⟩,fun c cm=>?_⟩
  have clt:c < s.heap.objs.size:=by
   have cs:c=z∨c=TI∨c=TO∨c=j1∨c=j2:=by simpa using cm
   obtain⟨_,e1,_⟩:=J1;obtain⟨_,e2,_⟩:=J2;rcases cs with rfl | rfl | rfl | rfl | rfl
   ·exact zlt
   ·exact KC PI
   ·exact KC PO
   ·exact KC e1
   ·exact KC e2
  rw[ak (Lj clt)];exact(hf c cm).1
 done:=by
  rintro X hP hw hK calm n pins s σ H E I hf ⟨Z,PI,⟨x0,y0,PO⟩,J1,J2⟩ ⟨xs,ys,qx,qy,he⟩;subst hP hw hK;obtain⟨vs,r1,U,_⟩:=I.tuple qx;obtain⟨us,r2,L,_⟩:=I.list qy;have l1:=r1.length;have l2:=r2.length
  refine zu (I.ok.hd calm) D Z PI PO J1 J2 (show s.heap.IsTuple a vs.toArray from U) L.isList (he.imp (fun q=>by simp;omega) (fun q=>by simp;omega)) fun h' kp=>⟨rfl,I.turnedL (t':=s.toks) (ch:=[z,TI,TO,j1,j2]) (fun c o nc q =>
   kp c o (fun e=>nc (by simp[e])) (fun e=>nc (by simp[e])) (fun e=>nc (by simp[e])) (fun e=>nc (by simp[e])) q) hf⟩
 self:=fun A n s Q E st h=>wpAny_pyIter_zip st.1 h
inductive Cn(K:Frag)(R:It->Hp->Prop)(vs:List V)(H1:Hp):Prop
 | mk (a b xs ys:_):vs=[.ref a,.ref b]->eB K H1 a xs->aH K H1 b ys->R (Eo K a b) H1->Cn K R vs H1
def Il(K:Frag)(ta:TA):TI:=fun σ H R=>ta σ H fun vs H1=>Cn K R vs H1
theorem EO{X:Cx}{e e2:Expr}{ta:TA}{p pos tpos:Pos}{elts:List Expr}{kk:Nat}(hg:Gl X "zip")(hm:X.mg "zip"=none)(ha:PA X [e,e2] ta)
  (hs:starEach [e,e2] X.env=(false,eval e X.env)::starEach [e2] X.env:=by rfl)(hpl:(backTo pos (starEach [e2] X.env)).any (·.1)=false:=by rfl):PI X (.Tuple elts kk tpos) (.Call (.Name "zip" p) [e,e2] [] pos) (Il X.K ta):=by
 intro pins s σ H R I h;refine Call_ (iI I hg hm o7 (PyProof.Rows.callWith_type1 (bE (ha pos pins s σ H _ I h) fun us s1 ⟨vs,H1,I1,r1,q1⟩=>?_) hs hpl));obtain⟨a,b,xs,ys,ex,qx,qy,q⟩:=q1;subst ex;cases r1 with
 | cons r rr =>
  cases rr with
  | cons r' rr =>
   cases rr;cases r;cases r';obtain⟨ws,rv,U,_⟩:=I1.tuple qx;obtain⟨ws2,rv2,L,_⟩:=I1.list qy;have la:a < s1.heap.objs.size:=by obtain⟨_,e,_⟩:=U;exact KC e
   have lb:b < s1.heap.objs.size:=L.lt;refine zC (show s1.heap.IsTuple a ws.toArray from U) L.isList fun h' Z PI PO J1 J2 kp=>wpAny_pyIter_zip Z ?_
   have I2:aM X pins σ H1 {s1 with heap:=h'}:=I1.kept (t':=s1.toks) kp
   refine⟨s1.heap.objs.size+4,[s1.heap.objs.size+4,s1.heap.objs.size+2,s1.heap.objs.size+3,s1.heap.objs.size,s1.heap.objs.size+1],_,_,H1,rfl,I2,BC (PySem.W.ktu_apart s1.heap.objs.size a b la lb),⟨Z,PI,⟨_,_,PO⟩,J1,J2⟩,fun c cm=>?_,q⟩;have cs:c=s1.heap.objs.size+4∨c=s1.heap.objs.size+2∨c=s1.heap.objs.size+3∨c=s1.heap.objs.size∨c=s1.heap.objs.size+1:=by simpa using cm
   have cl:s1.heap.objs.size≤c:=by rcases cs with q | q | q | q | q<;>rw[q]<;>first | exact KG _ | exact Nat.le_add_right _ _
   exact I1.fpOk cl (I1.hok.fresh cl)
theorem F1{K:Frag}{a b:Addr}{xs ys:List V}{g:TG}{tt:TT}{te:TE}{vs:List Nat}{σ:L2.St}{H1:Hp}{D:Addr}{Qd:Hp->Prop}(Pv:Nat->Hp->Prop)(h0:Pv 0 (upd H1 D (.lst [])))(hl:∀i H,Pv i H->eB K H a xs∧aH K H b ys)
  (hs:∀i x y H T,xs[i]?=some x->ys[i]?=some y->Pv i H->H T=none->g (.ref T) (bJ σ vs) (upd H T (.tup [x,y])) fun σ2 H2=>bJ σ2 vs=bJ σ vs∧tt σ2 H2 fun b H3 =>
   if b=true then te σ2 H3 fun y H4=>∃acc,H4 D=some (.lst acc)∧acc.length < sizeLine∧Pv (i+1) (upd H4 D (.lst (acc++[y]))) else Pv (i+1) H3)(hd:∀H,Pv (min xs.length ys.length) H->Qd H) :
  ∃W:Nat->Nat->Hp->Prop,(∃m,W 0 m (upd H1 D (.lst [])))∧∀i m H,W i m H →
   ((Eo K a b).stop i H∧Qd H)∨((Eo K a b).go i H∧∃Nx:Hp->Prop,(∀H',Nx H'->∃m',m' < m∧W (i+1) m' H')∧∀x H',(Eo K a b).yld i H x H'->g x (bJ σ vs) H' fun σ2 H2=>bJ σ2 vs=bJ σ vs∧tt σ2 H2 fun b H3 =>
    if b=true then te σ2 H3 fun y H4=>∃acc,H4 D=some (.lst acc)∧acc.length < sizeLine∧Nx (upd H4 D (.lst (acc++[y]))) else Nx H3):=by
 refine⟨fun i m H=>m=min xs.length ys.length - i∧i≤min xs.length ys.length∧Pv i H,⟨_,rfl,KZ _,h0⟩,?_⟩;rintro i m H ⟨rfl,hi,p⟩;obtain⟨q1,q2⟩:=hl i H p
 by_cases hlt:i < min xs.length ys.length
 ·have l1:i < xs.length:=KU hlt (Nat.min_le_left ..);have l2:i < ys.length:=KU hlt (Nat.min_le_right ..);refine .inr ⟨⟨xs,ys,xs[i],ys[i],q1,q2,by simp[l1],by simp[l2]⟩,Pv (i+1),fun H' p'=>⟨_,by omega,rfl,hlt,p'⟩,fun x H' y=>?_⟩
  obtain⟨T,x,y,rfl,hT,rfl,hx,hy⟩:=y;exact hs i x y H T (hx xs q1) (hy ys q2) p hT
 ·have e:i=min xs.length ys.length:=by omega
  subst e;exact .inl ⟨⟨xs,ys,q1,q2,by omega⟩,hd H p⟩
inductive dw(N:Addr->Prop)(H:Hp):List V->List AK->Prop
 | nil:dw N H [] []
 | cons {v:V} {k:AK} {vs:List V} {ks:List AK}:k.at N H v->dw N H vs ks->dw N H (v::vs) (k::ks)
theorem dw.keep{N N':Addr->Prop}{H H':Hp}{vs:List V}{ks:List AK}(h:dw N H vs ks)(hn:∀b,N b->N' b)(s:∀b o,N b->H b=some o->H' b=some o):dw N' H' vs ks:=by
 induction h with
 | nil=>exact .nil
 | cons a _ ih=>exact .cons (a.keep hn s) ih
theorem dw.len{N:Addr->Prop}{H:Hp}{vs:List V}{ks:List AK}(h:dw N H vs ks):vs.length=ks.length:=by
 induction h with
 | nil=>rfl
 | cons _ _ ih=>rw[Kx,Kx,ih]
theorem dw.get{N:Addr->Prop}{H:Hp}{vs:List V}{ks:List AK}(h:dw N H vs ks):∀{i:Nat}{v:V}{k:AK},vs[i]?=some v->ks[i]?=some k->k.at N H v:=by
 induction h with
 | nil=>intro i v k e;simp at e
 | cons a _ ih =>
  intro i v k e1 e2;cases i with
  | zero=>simp at e1 e2;subst e1;subst e2;exact a
  | succ i=>rw[List.getElem?_cons_succ] at e1 e2;exact ih e1 e2
theorem kh{l:List Int}(h:Vbavai.textIn l=true):∃bs:List Nat,l=Vbavai.ints bs:=by
 unfold Vbavai.textIn at h;rw[L7,List.all_eq_true] at h;refine⟨l.map Int.toNat,?_⟩;unfold Vbavai.ints;rw[Lc]
 conv=>lhs;rw[←List.map_id l]
 refine List.map_congr_left fun x hx=>?_;have:=(cb.mp (h.2 x hx)).1;show x=((x.toNat:Nat):Int);omega
theorem jT(bs:List Nat):(Vbavai.ints bs).map V.int=bs.map nat:=by
 unfold Vbavai.ints;rw[Lc];rfl
abbrev WD:List V:=([5,6,8,9,10,11]:List Int).map V.int
def JL(g:Gr)(H:Hp)(xs:List V)(c:Vbavai.Call):Prop :=
 (∃xi:List Int,xs=xi.map V.int∧K8 c xi∧nI (.int (eK c)) WD=false∧eK c≤4)∨(HM g H xs c∧nI (.int (eK c)) WD=false∧¬eK c≤4) ∨
 ((dO g->HM g H xs c)∧nI (.int (eK c)) WD=true∧¬eK c≤4∧(Vbavai.alive g=false->Vbavai.act ⟨g⟩ c=(⟨g⟩,[-2])))
theorem EA{N:Addr->Prop}{g:Gr}{H:Hp}{xs:List V}{c:Vbavai.Call}(hA:dw N H xs (ll c))(hr:Vbavai.ranged c=true):JL g H xs c:=by
 cases c with
 | node m=>cases hA with | cons h t=>cases t;cases h;exact .inl ⟨[m],rfl,rfl,rfl,by show(0:Int)≤4;decide⟩
 | edge a b=>cases hA with | cons h t=>cases t with | cons h2 t=>cases t;cases h;cases h2;exact .inl ⟨[a,b],rfl,rfl,rfl,by show(1:Int)≤4;decide⟩
 | cut a b=>cases hA with | cons h t=>cases t with | cons h2 t=>cases t;cases h;cases h2;exact .inl ⟨[a,b],rfl,rfl,rfl,by show(2:Int)≤4;decide⟩
 | marks a m=>cases hA with | cons h t=>cases t with | cons h2 t=>cases t;cases h;cases h2;exact .inl ⟨[a,m],rfl,rfl,rfl,by show(3:Int)≤4;decide⟩
 | told a=>cases hA with | cons h t=>cases t;cases h;exact .inl ⟨[a],rfl,rfl,rfl,by show(4:Int)≤4;decide⟩
 | holds l =>
  cases hA with
  | cons h t =>
   cases t;obtain⟨p,rfl,_,hp⟩:=h;obtain⟨bs,rfl⟩:=kh hr;exact .inr (.inr ⟨fun al=>⟨al,p,bs,rfl,rfl,by rw[←jT];exact hp⟩,rfl,by show ¬(5:Int)≤4;decide,fun h=>by unfold Vbavai.act;dsimp only;rw[if_pos h]⟩)
 | shows a l =>
  cases hA with
  | cons h0 t =>
   cases t with
   | cons h t =>
    cases t;cases h0;obtain⟨p,rfl,_,hp⟩:=h;obtain⟨bs,rfl⟩:=kh (Ly.mp hr).2;exact .inr (.inr ⟨fun al=>⟨al,a,p,bs,rfl,rfl,by rw[←jT];exact hp⟩,rfl,by show ¬(6:Int)≤4;decide,fun h=>by unfold Vbavai.act;dsimp only;rw[if_pos h]⟩)
 | form l =>
  cases hA with
  | cons h t =>
   cases t;obtain⟨p,rfl,_,hp⟩:=h;obtain⟨bs,rfl⟩:=kh hr;exact .inr (.inl ⟨⟨p,bs,rfl,rfl,by rw[←jT];exact hp⟩,rfl,by show ¬(7:Int)≤4;decide⟩)
 | classes=>cases hA;exact .inr (.inr ⟨fun al=>⟨al,rfl⟩,rfl,by show ¬(8:Int)≤4;decide,fun h=>by unfold Vbavai.act;dsimp only;rw[if_pos h]⟩)
 | apart a b=>cases hA with | cons h t=>cases t with | cons h2 t=>cases t;cases h;cases h2;exact .inr (.inr ⟨fun al=>⟨al,rfl⟩,rfl,by show ¬(9:Int)≤4;decide,fun h=>by unfold Vbavai.act;dsimp only;rw[if_pos h]⟩)
 | quotient=>cases hA;exact .inr (.inr ⟨fun al=>⟨al,rfl⟩,rfl,by show ¬(10:Int)≤4;decide,fun h=>by unfold Vbavai.act;dsimp only;rw[if_pos h]⟩)
 | same l m =>
  cases hA with
  | cons h t =>
   cases t with
   | cons h2 t =>
    cases t;obtain⟨p,rfl,_,hp⟩:=h;obtain⟨q,rfl,_,hq⟩:=h2;have hr:=Ly.mp hr;obtain⟨bs,rfl⟩:=kh hr.1;obtain⟨cs,rfl⟩:=kh hr.2;exact .inr (.inr ⟨fun al=>⟨al,p,q,bs,cs,rfl,rfl,by rw[←jT];exact hp,by rw[←jT];exact hq⟩,rfl,by show ¬(11:Int)≤4;decide,fun h=>by unfold Vbavai.act;dsimp only;rw[if_pos h]⟩)
theorem wV{g:Gr}{H H':Hp}{xs:List V}{c:Vbavai.Call}(s:aD H H')(h:HM g H xs c):HM g H' xs c:=by
 cases c with
 | node _=>exact h.elim
 | edge _ _=>exact h.elim
 | cut _ _=>exact h.elim
 | marks _ _=>exact h.elim
 | told _=>exact h.elim
 | holds l=>obtain⟨al,p,bs,e1,e2,hp⟩:=h;exact⟨al,p,bs,e1,e2,s _ _ hp⟩
 | shows a l=>obtain⟨al,i,p,bs,e1,e2,hp⟩:=h;exact⟨al,i,p,bs,e1,e2,s _ _ hp⟩
 | form l=>obtain⟨p,bs,e1,e2,hp⟩:=h;exact⟨p,bs,e1,e2,s _ _ hp⟩
 | classes=>exact h
 | apart _ _=>exact h
 | quotient=>exact h
 | same l m=>obtain⟨al,p,q,bs,cs,e1,e2,hp,hq⟩:=h;exact⟨al,p,q,bs,cs,e1,e2,s _ _ hp,s _ _ hq⟩
structure v7(K:Frag)(es:Array DictEntry):Prop where
 at_:∀c:Vbavai.Call,∃u,findBy Value.isInt es (eK c)=some (.ref u)∧∀H,eB K H u ((ll c).map fun k=>V.str k.kind)
inductive rm(CG:Addr)(vs:List V)(H:Hp)(Q:VK)(z3_:XK):Prop
 | mk (a ar lm ln:Addr) (ns:List Addr) (g:Gr) (xs:List V) (c:Vbavai.Call):vs=[.ref a,.int (eK c),.ref ar]->GX CG H a lm ln ns g->il g->H ar=some (.lst xs)->dw (fun _=>True) H xs (ll c)->(∀(H':Hp)(p:Addr)(ns':List Addr),GX CG H' a lm ln ns' (Vbavai.step ⟨g⟩ c).1.g->D1 H' p (Vbavai.step ⟨g⟩ c).2->SG lm ln H H'->Q (.ref p) H')->rm CG vs H Q z3_
theorem vK(F:aK K mg "answer_of" jI)(T:j3 mg)(TG:gw K CG)(W:XW P w K mg base C){d:Addr}{es:Array DictEntry}(MF:ql K mg "FORMS" d es)(DF:v7 K es)(hWD:∃a,mg "WITHOUT_DEAD_ENDS"=some (.ref a)∧∀H,eB K H a WD)(hLB:∃t,mg "LAST_BUILDING"=some (.int 4 t))
  (cI:aS P w K mg base C 1 "in_range" ["kind","value"] nB)(cD:d4 P w K mg base C CG 1 "has_dead_end" ["self"] (vE CG))(cB:aS P w K mg base C 3 "built" ["graph","number","arguments"] (vR CG))(cA:aS P w K mg base C 91 "asked" ["graph","number","arguments"] (nF CG C)) :
  aS P w K mg base C 92 "answer_of" ["graph","number","arguments"] (rm CG):=by
 refine F.cal (k:=91) oH fun f cdv A outer s H vs Q E hr h=>?_;obtain⟨a,ar,lm,ln,ns,g,xs,c,rfl,G,GO,har,hA,k⟩:=h;obtain⟨Nn,fI,fd,X,_,_,hm⟩:=W.ex;obtain⟨u,hu,hus⟩:=DF.at_ c;obtain⟨wa,hW,hWs⟩:=hWD;obtain⟨tb,hLB⟩:=hLB;obtain⟨dx,ho⟩:=G.obj;have nd:=oH.nd;have hr1:=hr.mono (show 1≤91 by decide)
 let EE:XK:=fun _ dx H'=>∃d e,dx=some d∧Vbavai.act ⟨g⟩ c=(⟨g⟩,[-1000 - ((e:Nat):Int)])∧H' d=some (.xd [("place",nat e)])∧aD H H'∧Vbavai.ranged c=true
 refine⟨_,ae (aV (dP (bQ (aQ (CW rfl) rfl T.all boot_all (a8 (du (own:=[("kind",4),("value",5)]) (g:=zO K 2 (jg (eI 4) (jg (eI 5) Bp))) (te:=jj nB [] EF (bZ (bL 4) (bZ (bL 5) gP))) rfl nd
    (EO rfl T.zip (a8 (tZ MF rfl (pv 1) (fun _ _=>rfl)) (a8 (pv 2) aa))) (ba rfl)
    (fun _ _ _ _ _=>m5 rfl (cu (aO (i:=4) nd rfl (Or.inl rfl)) (cu (aO (i:=5) nd rfl (Or.inl rfl)) iP))) (fun _ _ _ _ _=>bP)
    (fun _ _ _ _ _=>aj cI hr1 rfl ay (a8 (pv 4) (a8 (pv 5) aa)))) aa)))) (ai (aw (aN (a8 (bW bw aA) aa)))) aB)
  (ae (aV (PW.pt (GU (aI ee (pv 1) (bo (v:=.ref wa) rfl hW rfl) rfl) (F5 (bQ (fE (pv 0) TG.cl cD hr1 ay))))) (ai (aw (aN (a8 (bW bw aA) aa)))) aB)
  (ae (aV (aI tO (pv 1) (bo (v:=.int 4) rfl hLB ⟨tb,rfl⟩) (aR _)) (ai (aw (aj cB (hr.mono (by decide)) rfl ay (a8 (pv 0) (a8 (pv 1) (a8 (pv 2) aa)))))) aB)
  (ai (E5 (i:=3) (E:=EE) (tb:=zJ (jj (nF CG C) [] EE (bZ (bL 0) (bZ (bL 1) (bZ (bL 2) gP))))) X rfl nd rfl rfl rfl rfl rfl hm
   (fun pn=>ai (aw (aj cA hr rfl rb (a8 (pv 0) (a8 (pv 1) (a8 (pv 2) aa))))))
   (fun pn x dx oe vs hc hd hdat=>ai (aw (aN (a8 (dD vG (bW bw aA) (Aw X KJ hc hd hdat (pv 3) rfl)) aa)))))))),?_⟩
 have cl:(ll c).length≤2:=by cases c<;>simp[ll]
 let bs:List Bool:=(ll c).map AK.ok
 have hz:(bs.map V.bl).length≤100000:=by rw[Kv,Kv];omega
 refine⟨_,rfl,_,.ref u,.ref u,rfl,hu,rfl,_,rfl,u,ar,_,_,rfl,hus H,aH.of har,fun D hD=>?_⟩;refine F1 (K:=K) (a:=u) (b:=ar) (xs:=(ll c).map fun k=>V.str k.kind) (ys:=xs) (fun i H'=>H' D=some (.lst ((bs.map V.bl).take i))∧aD H H') ⟨a9,ah hD⟩ (fun i H' p=>⟨hus H',aH.of (p.2 _ _ har)⟩) ?_ ?_
 ·rintro i vx vy H' Tp hx hy ⟨p1,p2⟩ hT;rw[Kw] at hx;obtain⟨k1,hk1,rfl⟩:=KF.mp hx;have hat:=hA.get hy hk1;have st:(bs.map V.bl)[i]?=some (.bl k1.ok):=by rw[Kw,Kw,hk1];rfl
  have pS:=fw (o:=.tup [V.str k1.kind,vy]) hT p2;refine⟨Tp,_,rfl,eB.of a9,rfl,_,_,rfl,_,_,rfl,rfl,rfl,?_⟩;exact⟨_,rfl,_,rfl,(fun _=>True),vy,k1,rfl,hat.keep (fun _ _=>trivial) (fun b o _ e=>pS b o e),fun H2 s2=>bD hD (s2 _ _ (bj hT p1)) (pS.trans s2) st hz⟩
 rintro H1 ⟨p1,p2⟩;rw[KS (by rw[Kv,Kv,Kv,hA.len];omega)] at p1
 refine⟨D,bs,rfl,aH.of p1,_,rfl,?_⟩;have eb:bs.all id=Vbavai.ranged c:=by rw[yF,List.all_map];rfl
 rw[eb];refine de (fun h=>?_) (fun h=>?_)
 ·have hn:Vbavai.ranged c=false:=by simpa using h
  have es:Vbavai.step ⟨g⟩ c=(⟨g⟩,[-1]):=by unfold Vbavai.step;rw[if_pos hn]
  rw[es] at k;exact⟨_,rfl,fM,fun q hq=>k _ q ns (G.same (p2.trans (ah hq))) a9 (SG.of (p2.trans (ah hq)))⟩
 have hrg:Vbavai.ranged c=true:=by simpa using h
 have es:Vbavai.step ⟨g⟩ c=Vbavai.act ⟨g⟩ c:=by unfold Vbavai.step;rw[if_neg (by rw[hrg];decide)]
 rw[es] at k;have G1:=G.same p2
 have hA1:∀H2,aD H H2->HM g H2 xs c->HR C EE 3 (zJ (jj (nF CG C) [] EE (bZ (bL 0) (bZ (bL 1) (bZ (bL 2) gP))))) (fun x dx=>zJ (Ic (bZ (zj (An fun i j=>.int (i - j)) (Kh (rU fun i=>.int (-i)) (tC (.int 1000))) (FU x dx "place" (bL 3))) gP))) {nx:=fun _ H'=>Q .non H',rt:=Q} (start ["graph","number","arguments","wrong","kind","value"] [.ref a,.int (eK c),.ref ar]) H2:=fun H2 s2 hmk=>by
  refine⟨⟨_,rfl,_,rfl,_,rfl,a,ar,lm,ln,g,xs,c,rfl,(G.same s2).at,GO,s2 _ _ har,hmk,hrg,fun H3 p ans ea b3 s3=>?_,fun H3 dx e ea hx s3=>⟨dx,e,rfl,ea,hx,s2.trans s3,hrg⟩⟩,fun σ' H3 x dx hl hE=>?_⟩
  ·rw[ea] at k;exact k H3 p ns (G.same (s2.trans s3)) b3 (SG.of (s2.trans s3))
  ·obtain⟨d,e,hd,ea,hx,s3,_⟩:=hE;cases hd;rw[ea] at k;have hl6:σ'.length=6:=hl;refine⟨_,rfl,_,LC (by omega),_,_,rfl,hx,rfl,_,_,rfl,rfl,fM,fun q hq=>k _ q ns (G.same (s3.trans (ah hq))) a9 (SG.of (s3.trans (ah hq)))⟩
 rcases EA (g:=g) hA hrg with ⟨xi,rfl,hmk,hin,h4⟩ | ⟨hmk,hin,h4⟩ | ⟨hmk,hin,h4,hdead⟩
 ·refine⟨_,rfl,wa,_,rfl,.inr (hWs H1),rfl,rfl,_,rfl,bC hin ?_⟩;refine bC rfl ?_;refine⟨_,rfl,_,_,rfl,rfl,_,rfl,gz (Ll h4) ?_⟩;exact⟨_,rfl,_,rfl,_,rfl,a,ar,lm,ln,ns,g,xi,c,rfl,G1,GO,p2 _ _ har,hmk,hrg,fun H2 p ns' G2 b2 s2=>k H2 p ns' G2 b2 (SG.trans (SG.of p2) s2)⟩
 ·refine⟨_,rfl,wa,_,rfl,.inr (hWs H1),rfl,rfl,_,rfl,bC hin ?_⟩;refine bC rfl ?_;refine⟨_,rfl,_,_,rfl,rfl,_,rfl,bC (Ln h4) ?_⟩;exact hA1 H1 p2 (wV p2 hmk)
 ·refine⟨_,rfl,wa,_,rfl,.inr (hWs H1),rfl,rfl,_,rfl,gz hin ?_⟩;refine⟨_,rfl,a,dx,_,rfl,p2 _ _ ho,rfl,a,lm,ln,g,rfl,G1.at,GO,fun H2 s2=>⟨_,rfl,?_⟩⟩;refine de (fun hd=>?_) (fun hd=>?_)
  ·have hn:Vbavai.alive g=false:=by simpa using hd
   rw[hdead hn] at k;exact⟨_,rfl,fM,fun q hq=>k _ q ns (G.same ((p2.trans s2).trans (ah hq))) a9 (SG.of ((p2.trans s2).trans (ah hq)))⟩
  ·have hy:Vbavai.alive g=true:=by simpa using hd
   refine⟨_,rfl,_,_,rfl,rfl,_,rfl,bC (Ln h4) ?_⟩;exact hA1 H2 (p2.trans s2) (wV (p2.trans s2) (hmk hy))
end Can
namespace VM
open Vbavai
theorem oq(g:Graph):∀(n a b:Nat),fok (apart g n a b)
 | 0,_,_=>trivial
 | n+1,a,b=>by
  unfold apart;cases parts g a b with
  | none=>exact trivial
  | some k =>
   cases k with
   | zero =>
    dsimp only;cases hm:(List.range MARKS).find? fun m=>(nodeAt g a).marks.testBit m != (nodeAt g b).marks.testBit m with
    | none=>exact trivial
    | some m =>
     have h4:m < 4:=List.mem_range.mp (List.mem_of_find?_eq_some hm);dsimp only
     split
     ·exact h4
     ·exact h4
   | succ k =>
    dsimp only
    split
    ·exact rq fun f hf=>by
      obtain⟨j,_,rfl⟩:=Ls.mp hf;exact oq g n _ _
    ·split
     ·exact rq fun f hf=>by
       obtain⟨j,_,rfl⟩:=Ls.mp hf;exact oq g n _ _
     ·exact trivial
theorem dc(l:List Nat):(listed (Vbavai.ints l)).length=l.length+1:=by unfold listed Vbavai.ints;rw[Kx,Kv]
theorem eP{g:Graph}(hl:g.length≤12)(p:Nat->Bool):((order g).filter p).length≤12:=Lh (Lg ..) (by rw[eV];exact hl)
theorem me{s:Vbavai.St}{t:List Int}{k:F->List Int}{n:Nat}(h1:1≤n)(h:∀f,fok f->size f≤40->(k f).length≤n):(ofText s t k).2.length≤n:=by
 unfold ofText;cases hr:readAll (t.map Int.toNat) with
 | error w=>exact h1
 | ok f =>
  dsimp only
  by_cases hs:SIZE < size f
  ·rw[if_pos hs];exact h1
  ·rw[if_neg hs];exact h f (wA hr) (by have:¬40 < size f:=hs;omega)
theorem xu{g:Graph}{x y:List Bool}{i k:Nat}(h:steps g x y i=some k):k≤g.length:=by
 unfold steps at h;have:=List.mem_range.mp (List.mem_of_find?_eq_some h);omega
theorem BV{g:Graph}{f:F}{i:Nat}{w:List Nat×Option Nat}(h:shows g f i=some w):w.1.length≤g.length+2:=by
 cases f with
 | next f =>
  unfold shows at h;dsimp only at h;obtain⟨j,_,rfl⟩:=KF.mp h;show 2≤_;omega
 | until_ f u =>
  unfold shows at h;dsimp only at h;obtain⟨k,hk,rfl⟩:=KF.mp h;have:=jH g (sat g f) (sat g u) k i;have:=xu hk;dsimp only;omega
 | within m f u =>
  unfold shows at h;dsimp only at h;obtain⟨k,hk,rfl⟩:=KF.mp h;have:=jH g (sat g f) (sat g u) k i;have:=xu hk;dsimp only;omega
 | ever f =>
  unfold shows at h;dsimp only at h;cases h;have:=lP g (sat g (.ever f)) (g.length+1) [] i;rw[L0] at this;dsimp only;omega
 | tru=>cases h
 | mark _=>cases h
 | not _=>cases h
 | and _ _=>cases h
 | or _ _=>cases h
theorem rh(a:Nat):∀m:List Nat,(put a m).length≤m.length+1
 | []=>KG _
 | b::m=>by
  have ih:=rh a m;unfold put
  split
  ·simp
  ·split
   ·simp
   ·rw[Kx,Kx];omega
theorem lh:∀l:List Nat,(l.foldr put []).length≤l.length
 | []=>KG _
 | a::l=>by
  rw[List.foldr_cons,Kx];have h1:=rh a (l.foldr put []);have h2:=lh l;omega
theorem wq{f:Nat->List Int}{b:Nat}:∀{l:List Nat},(∀i∈l,(f i).length≤b)->(l.flatMap f).length≤l.length * b
 | [],_=>by simp
 | a::l,h=>by
  rw[Lz,Ky,Kx];have h1:=h a KJ;have h2:=wq (l:=l) fun i hi=>h i (KH _ hi);rw[Nat.add_mul];omega
theorem Ej{g:Graph}(hl:g.length≤12)(ho:∀nd∈g,nd.next.length≤4)(c:Call):(Vbavai.step ⟨g⟩ c).2.length≤500:=by
 have out:∀i,i < g.length->(nodeAt g i).next.length≤4:=fun i hi=>ho _ (KA (aT hi));unfold Vbavai.step
 by_cases hr:ranged c=false
 ·rw[if_pos hr];show 1≤500;decide
 rw[if_neg hr];have one:1≤500:=by decide
 cases c with
 | node m=>unfold act;dsimp only;split<;>exact one
 | edge a b =>
  unfold act;dsimp only
  split
  ·exact one
  ·split
   ·exact one
   ·split<;>exact one
 | cut a b =>
  unfold act;dsimp only
  split
  ·exact one
  ·split<;>exact one
 | marks a m=>unfold act;dsimp only;split<;>exact one
 | told a =>
  unfold act;dsimp only
  by_cases h:(g.length:Int)≤a
  ·rw[if_pos h];exact one
  ·rw[if_neg h]
   have h0:0≤a:=by
    have:inR a 0 11=true:=by simpa [ranged,nodeIn] using hr
    unfold inR at this;rw[L7,LH] at this;exact this.1
   have:=out a.toNat (by omega)
   dsimp only;rw[Kx,dc];omega
 | holds t =>
  unfold act;dsimp only
  split
  ·exact one
  ·refine me one fun f _ _=>?_;rw[dc];have:=eP hl (mem (sat g f));omega
 | shows a t =>
  unfold act;dsimp only
  split
  ·exact one
  ·split
   ·exact one
   ·refine me one fun f _ _=>?_
    split
    ·exact one
    ·cases hs:shows g f a.toNat with
     | none=>exact one
     | some w =>
      have:=BV hs;obtain⟨w1,w2⟩:=w;cases w2 with
      | none=>dsimp only at this ⊢;rw[Ky,dc];show 2+_≤_;omega
      | some n=>dsimp only at this ⊢;rw[Ky,dc];show 2+_≤_;omega
 | form t =>
  unfold act;dsimp only;refine me one fun f hf hs=>?_;rw[dc];have:=jU hf;omega
 | classes =>
  unfold act;dsimp only
  split
  ·exact one
  ·dsimp only;rw[dc,eh];omega
 | apart a b =>
  unfold act;dsimp only
  split
  ·exact one
  ·split
   ·exact one
   ·cases parts g a.toNat b.toNat with
    | none=>exact one
    | some k =>
     dsimp only
     split
     ·exact one
     ·split
      ·exact one
      ·rename_i hs
       have hs:¬40 < size (apart g 13 a.toNat b.toNat):=hs;have:=jU (oq g 13 a.toNat b.toNat);dsimp only;rw[Kx,dc];omega
 | quotient =>
  unfold act;dsimp only
  split
  ·exact one
  ·dsimp only;rw[Kx];have h1:=eP hl fun i=>(classes g g.length).idxOf ((classes g g.length).getD i 0)==i
   have h2:∀i∈(order g).filter (fun i=>(classes g g.length).idxOf ((classes g g.length).getD i 0)==i),(((nodeAt g i).marks:Int)::listed (Vbavai.ints (((nodeAt g i).next.map fun j=>(classes g g.length).getD j 0).foldr put []))).length≤6:=fun i hi=>by
    have hi:i < g.length:=by
     have:=(Lr.mp hi).1;unfold order at this;exact List.mem_range.mp this
    rw[Kx,dc];have a1:=lh ((nodeAt g i).next.map fun j=>(classes g g.length).getD j 0);rw[Kv] at a1;have:=out i hi;omega
   have h3:=wq h2;omega
 | same t u =>
  unfold act;dsimp only
  split
  ·exact one
  ·split
   ·split
    ·exact one
    ·dsimp only;rw[dc]
     rename_i f h _ _ _
     have:=eP hl fun i=>mem (sat g f) i != mem (sat g h) i;omega
   ·exact one
   ·exact one
end VM
namespace Can
open PySem PySem.Spec PyProof.Rows L2 XL
variable{P:Program}{w:World}{K:Frag}{mg:Str->Option Value}{base:Heap}{C CG CF CT CR CY:Addr}
def one(k:Vbavai.Call):List Int:=eK k::(ll k).flatMap AK.flat
def dA(ks:List Vbavai.Call):List Int:=ks.flatMap one
def lO:Vbavai.St->List Vbavai.Call->List (List Int)
 | _,[]=>[]
 | s,k::r=>(Vbavai.step s k).2::lO (Vbavai.step s k).1 r
def after:Vbavai.St->List Vbavai.Call->Vbavai.St
 | s,[]=>s
 | s,k::r=>after (Vbavai.step s k).1 r
theorem tM(k:Vbavai.Call):∀(l:List Vbavai.Call)(s:Vbavai.St),lO s (l++[k])=lO s l++[(Vbavai.step (after s l) k).2]
 | [],_=>rfl
 | a::l,s=>by
  show(Vbavai.step s a).2::lO (Vbavai.step s a).1 (l++[k])=_;rw[tM k l];rfl
theorem qW(k:Vbavai.Call):∀(l:List Vbavai.Call)(s:Vbavai.St),after s (l++[k])=(Vbavai.step (after s l) k).1
 | [],_=>rfl
 | a::l,s=>by
  show after (Vbavai.step s a).1 (l++[k])=_;rw[qW k l];rfl
theorem Bx(l:List (List Int))(x:List Int):PyFlat.told (l++[x])=PyFlat.told l++((x.length:Int)::x):=by
 unfold PyFlat.told;rw[LA];simp
theorem eW(k:Vbavai.Call)(ks:List Vbavai.Call):dA (k::ks)=eK k::((ll k).flatMap AK.flat++dA ks):=by
 unfold dA;rw[Lz];rfl
theorem jy(d r:List Vbavai.Call):dA (d++r)=dA d++dA r:=by unfold dA;rw[LA]
theorem Aq:∀ks:List Vbavai.Call,ks.length≤(dA ks).length
 | []=>KG _
 | k::ks=>by
  have:=Aq ks;rw[eW,Kx,Kx,Ky];omega
theorem Et{c:List (List Int)}{l t:List Int}(h:VM.zP c l t):∃k:Vbavai.Call,l=eK k::((ll k).flatMap AK.flat++t)∧∀s,VbavaiNeutral.step s c=Vbavai.step s k:=by
 cases h with
 | node m=>exact⟨.node m,rfl,fun s=>VM.Bf s m⟩
 | edge a b=>exact⟨.edge a b,rfl,fun s=>VM.B3 s a b⟩
 | cut a b=>exact⟨.cut a b,rfl,fun s=>VM.Cw s a b⟩
 | marks a b=>exact⟨.marks a b,rfl,fun s=>VM.yZ s a b⟩
 | told a=>exact⟨.told a,rfl,fun s=>VM.BR s a⟩
 | holds x=>exact⟨.holds x,by simp[ll,AK.flat,eK],fun s=>VM.ym s x⟩
 | shows a x=>exact⟨.shows a x,by simp[ll,AK.flat,eK],fun s=>VM.yO s a x⟩
 | form x=>exact⟨.form x,by simp[ll,AK.flat,eK],fun s=>VM.BJ s x⟩
 | classes=>exact⟨.classes,rfl,fun s=>VM.uM s⟩
 | apart a b=>exact⟨.apart a b,rfl,fun s=>VM.zL s a b⟩
 | quotient=>exact⟨.quotient,rfl,fun s=>VM.sE s⟩
 | same x y=>exact⟨.same x y,by simp[ll,AK.flat,eK],fun s=>VM.BE s x y⟩
theorem F8(f:Nat):∀(l:List Int)(cs:List (List (List Int))),PyFlat.calls PyVbavai.shape f l=some cs->∃ks:List Vbavai.Call,l=dA ks∧ks.length=cs.length∧∀s,PyFlat.played VbavaiNeutral.step s (cs.map PyVbavai.whole)=lO s ks:=by
 induction f with
 | zero =>
  intro l cs h;cases l with
  | nil=>rw[VM.xC] at h;cases h;exact⟨[],rfl,rfl,fun _=>rfl⟩
  | cons p r=>simp[PyFlat.calls] at h
 | succ f ih =>
  intro l cs h
  by_cases hl:l=[]
  ·subst hl;rw[VM.xC] at h;cases h;exact⟨[],rfl,rfl,fun _=>rfl⟩
  ·obtain⟨f',c,t,cs',hf,hc,hr,rfl⟩:=VM.eW h hl;cases hf;obtain⟨ks,rfl,hlen,hp⟩:=ih t cs' hr;have R:=VM.Hf hc;obtain⟨k,rfl,hs⟩:=Et R;refine⟨k::ks,(eW k ks).symm,by rw[Kx,Kx,hlen],fun s=>?_⟩
   show(VbavaiNeutral.step s (PyVbavai.whole c)).2::PyFlat.played VbavaiNeutral.step (VbavaiNeutral.step s (PyVbavai.whole c)).1 (cs'.map PyVbavai.whole)=_;rw[VM.Bl R,hs,hp];rfl
theorem zd{l:List Int}(h:PyVbavai.answers_asked l=true):∃ks:List Vbavai.Call,l=dA ks∧ks.length≤400∧PyVbavai.answers l=PyFlat.told (lO ⟨[]⟩ ks):=by
 unfold PyVbavai.answers_asked at h;cases hr:PyFlat.calls PyVbavai.shape l.length l with
 | none =>
  have hc:PyVbavai.calls l=none:=by unfold PyVbavai.calls;rw[hr]
  rw[hc] at h;cases h
 | some cs =>
  have hc:PyVbavai.calls l=some (cs.map PyVbavai.whole):=by unfold PyVbavai.calls;rw[hr]
  rw[hc] at h;obtain⟨ks,e,hlen,hp⟩:=F8 _ _ _ hr;refine⟨ks,e,?_,?_⟩
  ·have h4:(cs.map PyVbavai.whole).length≤400:=Lm (Ly.mp h).1;rw[Kv] at h4;omega
  ·unfold PyVbavai.answers;rw[hc];show PyFlat.told (PyFlat.played VbavaiNeutral.step VbavaiNeutral.start (cs.map PyVbavai.whole))=_;rw[hp];rfl
theorem E6{α:Type}:∀{l:List α}{i:Nat}{x:α},l[i]?=some x->l=l.take i++x::l.drop (i+1)
 | [],_,_,h=>by simp at h
 | a::l,0,x,h=>by simp at h;subst h;rfl
 | a::l,i+1,x,h=>by
  have:=E6 (l:=l) (i:=i) (x:=x) (by simpa using h)
  show a::l=a::(l.take i++x::l.drop (i+1));rw[←this]
theorem F4{p t r:List Int}{a b:Int}(ha:a=(p.length:Nat))(hb:b=((p.length+t.length:Nat):Int)):xB ((p++(t++r)).map V.int) (some a) (some b)=t.map V.int:=by
 subst ha hb;unfold xB;rw[HT.A2,HT.A2,Kv,Ky,Ky,Nat.min_eq_left (by omega),Nat.min_eq_left (by omega),Nat.add_sub_cancel_left,KO,KO,List.drop_left' (by rw[Kv]),List.take_left' (by rw[Kv])]
theorem zG{p r:List Int}{x a:Int}(ha:a=(p.length:Nat)):yb ((p++x::r).map V.int) a=some (.int x):=by
 subst ha;exact d9 (by rw[Kw,Le (KG _),Nat.sub_self];rfl)
def qK(N:Addr->Prop)(H:Hp)(q:Addr)(k:Vbavai.Call):Prop:=N q∧∃(ar:Addr)(xs:List V),H q=some (.tup [.int (eK k),.ref ar])∧N ar∧H ar=some (.lst xs)∧dw N H xs (ll k)
theorem qK.keep{N N':Addr->Prop}{H H':Hp}{q:Addr}{k:Vbavai.Call}(h:qK N H q k)(hn:∀b,N b->N' b)(s:∀b o,N b->H b=some o->H' b=some o):qK N' H' q k:=by
 obtain⟨nq,ar,xs,h1,na,h2,h3⟩:=h;exact⟨hn _ nq,ar,xs,s _ _ nq h1,hn _ na,s _ _ na h2,h3.keep hn s⟩
structure ft(N:Addr->Prop)(H:Hp)(ps:List Addr)(ks:List Vbavai.Call):Prop where
 len:ps.length=ks.length
 each:∀(i:Nat)(q:Addr)(k:Vbavai.Call),ps[i]?=some q->ks[i]?=some k->qK N H q k
theorem ft.keep{N N':Addr->Prop}{H H':Hp}{ps:List Addr}{ks:List Vbavai.Call}(h:ft N H ps ks)(hn:∀b,N b->N' b)(s:∀b o,N b->H b=some o->H' b=some o):ft N' H' ps ks :=
 ⟨h.len,fun i q k e1 e2=>(h.each i q k e1 e2).keep hn s⟩
theorem ft.snoc{N:Addr->Prop}{H:Hp}{ps:List Addr}{ks:List Vbavai.Call}{q:Addr}{k:Vbavai.Call}(h:ft N H ps ks)(c:qK N H q k):ft N H (ps++[q]) (ks++[k]):=by
 have hl:=h.len;refine⟨by rw[Ky,Ky,hl];rfl,fun i q' k' e1 e2=>?_⟩
 by_cases hi:i < ps.length
 ·rw[Lf hi] at e1;rw[Lf (by omega)] at e2
  exact h.each i q' k' e1 e2
 ·rw[Le (by omega)] at e1 e2
  rcases Nat.eq_zero_or_pos (i - ps.length) with z | z
  ·rw[z] at e1;rw[←hl,z] at e2;cases e1;cases e2;exact c
  ·rw[L8 (by simp;omega)] at e1
   cases e1
inductive pW(K:Frag)(vs:List V)(H:Hp)(Q:VK)(z3_:XK):Prop
 | mk (a:Addr) (ks:List Vbavai.Call):vs=[.ref a]->aH K H a ((dA ks).map V.int)->(dA ks).length≤16000->(∀(H':Hp)(p:Addr)(ps:List Addr),H p=none->H' p=some (.lst (ps.map V.ref))->ft (fun b=>H b=none) H' ps ks->aD H H'->Q (.ref p) H')->pW K vs H Q z3_
theorem dw.snoc{N:Addr->Prop}{H:Hp}{vs:List V}{ks:List AK}{v:V}{k:AK}(h:dw N H vs ks)(c:k.at N H v):dw N H (vs++[v]) (ks++[k]):=by
 induction h with
 | nil=>exact .cons c .nil
 | cons a _ ih=>exact .cons a ih
theorem rg(F:aK K mg "split_calls" gR)(T:j3 mg){d:Addr}{es:Array DictEntry}(MF:ql K mg "FORMS" d es)(DF:v7 K es):aS P w K mg base C 1 "split_calls" ["calls"] (pW K):=by
 refine F.cal kY fun f cdv A outer s H vs Q E hr h=>?_;obtain⟨a,ks,rfl,hS,hL,k⟩:=h;have nd:=kY.nd
 refine⟨_,ae (aE (i:=1) nd rfl (Or.inl rfl) (aN aa))
  (ae (aE (i:=2) nd rfl (Or.inl rfl) aA)
  (ae (r8 PassesOwn.leaving (aI Gj (pv 2) (aQ aU rfl T.len boot_len (a8 (pv 0) aa)) (aR _))
   (ae (aE (i:=3) nd rfl (Or.inl rfl) (aY aF (pv 0) (pv 2) (fun _ _=>rfl)))
   (ae (Cy (i:=2) nd rfl (Or.inl rfl) aA DH)
   (ae (aE (i:=4) nd rfl (Or.inl rfl) (aN aa))
   (ae (gq PassesOwn.leaving rfl (Cm (tZ MF rfl (pv 3) (fun _ _=>rfl))) (aO (i:=5) nd rfl (Or.inl rfl))
    (ai (aV (aI bV (pv 5) bf (aR _))
     (ae (aE (i:=6) nd rfl (Or.inl rfl) (dD jA (pv 2) aA))
     (ae (aE (i:=2) nd rfl (Or.inl rfl) (dD jA (pv 6) (aY aF (pv 0) (pv 2) (fun _ _=>rfl))))
     (ai (bH (fO PySem.F.plainAttrs_list PySem.F.slot_list_append PySem.F.type_list_append ck (pv 4) (a8 (rL vP (pv 0) (pP (pv 6)) (pP (pv 2))) aa))))))
     (ae (bH (fO PySem.F.plainAttrs_list PySem.F.slot_list_append PySem.F.type_list_append ck (pv 4) (a8 (aY aF (pv 0) (pv 2) (fun _ _=>rfl)) aa)))
     (ai (Cy (i:=2) nd rfl (Or.inl rfl) aA DH))))))
   (ai (bH (fO PySem.F.plainAttrs_list PySem.F.slot_list_append PySem.F.type_list_append ck (pv 1) (a8 (vW (a8 (pv 3) (a8 (pv 4) aa))) aa)))))))))
  (ai (aw (pv 1))))),?_⟩
 refine⟨GS,fun p hp=>?_⟩
 refine⟨fun m σ H'=>∃(dn r:List Vbavai.Call)(z:Int)(v3 v4 v5 v6:Option V)(ps:List Addr),m=r.length∧ks=dn++r∧σ=[some (.ref a),some (.ref p),some (.int z),v3,v4,v5,v6]∧z=((dA dn).length:Nat)∧H' p=some (.lst (ps.map V.ref))∧ft (fun b=>H b=none∧b≠p) H' ps dn∧aD H H',
  ⟨ks.length,[],ks,0,none,none,none,none,[],rfl,rfl,rfl,rfl,a9,⟨rfl,fun i q k e=>by simp at e⟩,ah hp⟩,?_⟩
 rintro m σ H1 ⟨dn,r,z,v3,v4,v5,v6,ps,rfl,rfl,rfl,hz,hP1,hC1,s1⟩;have hS1:=s1.seq hS;have hnp:H p=none:=hp;refine⟨_,rfl,_,rfl,a,_,rfl,.inl hS1,_,_,rfl,rfl,_,rfl,?_⟩;have hfl:(dA (dn++r)).length=(dA dn).length+(dA r).length:=by rw[jy,Ky]
 cases r with
 | nil =>
  refine bC (Ln (by rw[Kv,hfl,hz];show ¬_;simp[dA])) ?_
  rw[Lp] at k;exact⟨_,rfl,k H1 p ps hnp hP1 (hC1.keep (fun b h=>h.1) (fun b o _ e=>e)) s1⟩
 | cons c r =>
  rw[eW,Kx] at hfl;have hdl:=Aq dn;refine gz (Ll (by rw[Kv,hfl,hz];omega)) ?_
  refine⟨fun σ' H'=>∃(z:Int)(v3 v4 v5 v6:Option V)(ps:List Addr),σ'=[some (.ref a),some (.ref p),some (.int z),v3,v4,v5,v6]∧z=((dA (dn++[c])).length:Nat)∧H' p=some (.lst (ps.map V.ref))∧ft (fun b=>H b=none∧b≠p) H' ps (dn++[c])∧aD H H',
   fun σ' H' ⟨z,v3,v4,v5,v6,ps,h1,h2,h3,h4,h5⟩=>⟨r.length,LO _,dn++[c],r,z,v3,v4,v5,v6,ps,rfl,by rw[Ld];rfl,h1,h2,h3,h4,h5⟩,?_⟩
  obtain⟨u,hu,hus⟩:=DF.at_ c;have el:dA (dn++c::r)=dA dn++eK c::((ll c).flatMap AK.flat++dA r):=by rw[jy,eW]
  rw[el] at hS1 hS;refine⟨_,rfl,_,rfl,a,_,_,_,rfl,rfl,hS1,zG hz,?_⟩;refine⟨_,rfl,_,_,rfl,rfl,?_⟩;refine⟨GS,fun ar har=>?_⟩;have hnar:H ar=none:=s1.free har;have arp:ar≠p:=(aq hP1 har).symm;refine⟨_,rfl,_,.ref u,.ref u,rfl,hu,rfl,u,rfl,⟨_,hus _⟩,?_⟩
  refine FA (K:=K) (a:=u) (xs:=(ll c).map fun k=>V.str k.kind) (fun i σ H'=>∃(z:Int)(v5 v6:Option V)(xs:List V),σ=[some (.ref a),some (.ref p),some (.int z),some (.int (eK c)),some (.ref ar),v5,v6]∧z=((dA dn++eK c::((ll c).take i).flatMap AK.flat).length:Nat) ∧
   H' ar=some (.lst xs)∧dw (fun b=>(H b=none∧b≠p)∧b≠ar) H' xs ((ll c).take i)∧aD H1 H') ⟨_,v5,v6,[],rfl,?_,a9,.nil,ah har⟩ (fun i σ H' _ _=>hus H') ?_ ?_
  ·rw[hz,Ky];rfl
  ·rintro i v σ H2 hv ⟨z2,w5,w6,xs,rfl,hz2,hx,hA,s2⟩;rw[Kw] at hv;obtain⟨x,hxi,rfl⟩:=KF.mp hv;have hS2:=s2.seq hS1;have s12:=s1.trans s2
   have xl:xs.length≤2:=by
    have h1:=hA.len;rw[L9] at h1;have:(ll c).length≤2:=by cases c<;>simp[ll]
    omega
   have e1:dA dn++eK c::((ll c).flatMap AK.flat++dA r)=(dA dn++eK c::((ll c).take i).flatMap AK.flat)++(x.flat++(((ll c).drop (i+1)).flatMap AK.flat++dA r)):=by
    conv=>lhs;rw[E6 hxi,LA,Lz]
    simp only[Ld,List.cons_append]
   have e2:∀n:Nat,n=x.flat.length->((dA dn++eK c::((ll c).take (i+1)).flatMap AK.flat).length:Nat)=(dA dn++eK c::((ll c).take i).flatMap AK.flat).length+n:=fun n hn=>by
    rw[bS hxi,LA,Lz,List.flatMap_nil,Lp];simp only[Ky,Kx,hn];omega
   rw[e1] at hS2
   have hx2:(∃y:Int,x.flat=[y]∧(∀(N:Addr->Prop)(H:Hp),x.at N H (.int y))∧decide (V.str x.kind=V.str "text")=false)∨∃l,x=.text l:=by
    cases x with
    | marks y=>exact .inl ⟨y,rfl,fun _ _=>rfl,by show decide (V.str "marks"=V.str "text")=false;decide⟩
    | node y=>exact .inl ⟨y,rfl,fun _ _=>rfl,by show decide (V.str "node"=V.str "text")=false;decide⟩
    | text l=>exact .inr ⟨l,rfl⟩
   rcases hx2 with ⟨y,hf,hat,hk⟩ | ⟨l,rfl⟩
   ·rw[hf] at hS2;refine⟨_,rfl,rfl,_,rfl,bC hk ?_⟩;refine⟨_,rfl,.inl ⟨rfl,_,aH.of hx⟩,_,rfl,_,rfl,a,_,_,_,rfl,rfl,hS2,zG hz2,ar,_,_,rfl,rfl,hx,br (by omega),?_⟩
    refine⟨_,rfl,_,_,rfl,rfl,_,some (V.str x.kind),w6,_,rfl,?_,a9,?_,bh s2 har⟩
    ·rw[hz2,e2 1 (by rw[hf];rfl)];rfl
    ·rw[bS hxi];exact(hA.keep (fun b h=>h) (fun b o hb e=>by rw[ak hb.2];exact e)).snoc (hat _ _)
   ·have e3:∀B:List Int,(B++[(l.length:Int)]).length=B.length+1:=fun B=>by rw[Ky];rfl
    have hS3:aH K H2 a ((dA dn++eK c::((ll c).take i).flatMap AK.flat++(l.length:Int)::(l++(((ll c).drop (i+1)).flatMap AK.flat++dA r))).map V.int):=hS2;have hS4:aH K H2 a (((dA dn++eK c::((ll c).take i).flatMap AK.flat++[(l.length:Int)])++(l++(((ll c).drop (i+1)).flatMap AK.flat++dA r))).map V.int):=by rw[Ld _ [(l.length:Int)]];exact hS3
    refine⟨_,rfl,rfl,_,rfl,gz (by show decide (V.str "text"=V.str "text")=true;decide) ?_⟩
    refine⟨_,rfl,_,_,rfl,rfl,?_⟩;refine⟨_,rfl,_,rfl,_,rfl,a,_,_,_,rfl,rfl,hS3,zG hz2,_,_,rfl,rfl,?_⟩;refine⟨_,rfl,.inl ⟨rfl,_,aH.of hx⟩,_,rfl,_,rfl,_,rfl,_,rfl,_,rfl,a,_,rfl,hS4,fun t ht=>?_⟩;have tar:t≠ar:=(aq hx ht).symm;refine⟨ar,_,_,rfl,rfl,bj ht hx,br (by omega),?_⟩
    refine⟨_,some (V.str "text"),_,_,rfl,?_,a9,?_,bh (bh s2 (s2.free ht)) har⟩
    ·rw[hz2,e2 (l.length+1) rfl];show(_:Int)+1+(l.length:Int)=_;omega
    ·rw[bS hxi];refine(hA.keep (fun b h=>h) (fun b o hb e=>by rw[ak hb.2,ak (aq e ht)];exact e)).snoc ⟨t,rfl,⟨⟨s12.free ht,fun e=>?_⟩,tar⟩,?_⟩
     ·rw[e,s2 _ _ hP1] at ht;cases ht
     ·show upd _ ar _ t=_;rw[ak tar,a9,F4 (by rw[hz2,e3];rfl) (by rw[hz2,e3];show(_:Int)+1+(l.length:Int)=_;omega)]
  ·rintro σ H2 ⟨z2,w5,w6,xs,rfl,hz2,hx,hA,s2⟩;rw[Kv,Lo] at hz2 hA;have s12:=s1.trans s2;have hP2:=s2 _ _ hP1;refine⟨_,rfl,.inl ⟨rfl,_,aH.of hP2⟩,_,rfl,_,rfl,A6,fun q hq=>?_⟩;have qp:q≠p:=(aq hP2 hq).symm;have qa:ar≠q:=aq hx hq;refine⟨p,_,_,rfl,rfl,bj hq hP2,br (by rw[Kv,hC1.len];omega),?_⟩
   refine⟨z2,_,_,_,_,ps++[q],rfl,?_,?_,?_,bh (bh s12 (s12.free hq)) hnp⟩
   ·rw[hz2,jy,eW];simp[dA]
   ·rw[a9,KO];rfl
   ·refine ft.snoc (hC1.keep (fun b h=>h) (fun b o hb e=>by rw[ak hb.2,ak (aq (s2 _ _ e) hq)];exact s2 _ _ e)) ⟨⟨s12.free hq,qp⟩,ar,xs,by rw[ak qp,a9],⟨hnar,arp⟩,by rw[ak arp,ak qa];exact hx,?_⟩
    exact hA.keep (fun b h=>h.1) (fun b o hb e=>by rw[ak hb.1.2,ak (aq e hq)];exact e)
structure Kc(P:Program)(w:World)(K:Frag)(mg:Str->Option Value)(base:Heap)(C CG:Addr):Prop where
 ex:∃f fd,Mk K CG f∧dh P w K mg base (ic P w C) 1 f fd ["self"] (vc CG)∧mg "Graph"=some (.ref CG)∧d7 K fd ["self"] []
inductive tU(K:Frag)(vs:List V)(H:Hp)(Q:VK)(z3_:XK):Prop
 | mk (a:Addr) (ks:List Vbavai.Call):vs=[.ref a]->aH K H a ((dA ks).map V.int)->(dA ks).length≤16000->ks.length≤400->(∀(H':Hp)(p:Addr),D1 H' p (PyFlat.told (lO ⟨[]⟩ ks))->Q (.ref p) H')->tU K vs H Q z3_
theorem GX.upd{CG:Addr}{H:Hp}{a lm ln t:Addr}{ns:List Addr}{g:Gr}{o:HO}(G:GX CG H a lm ln ns g)(h1:a≠t)(h2:lm≠t)(h3:ln≠t)(h4:t∉ns):GX CG (L2.upd H t o) a lm ln ns g:=by
 obtain⟨⟨dx,g1⟩,g2,g3,g4,g5,g6,g7,g8,g9⟩:=G;exact⟨⟨dx,by rw[ak h1];exact g1⟩,by rw[ak h2];exact g2,g3,by rw[ak h3];exact g4,fun i l nd e1 e2=>by rw[ak (show l≠t from fun z=>h4 (z▸KA e1))];exact g5 i l nd e1 e2,g6,g7,g8,g9⟩
theorem GX.out{CG:Addr}{H:Hp}{a lm ln t:Addr}{ns:List Addr}{g:Gr}{od:Obj}{u:HO}(G:GX CG H a lm ln ns g)(h:H t=some (.frz od u)):t∉ns:=fun hx=>by
 obtain⟨i,hi,e⟩:=List.getElem_of_mem hx;have hi2:i < g.length:=by have:=G.len;omega
 have:=G.each i t _ (by rw[←e];exact Kz hi) (Kz hi2)
 rw[h] at this;cases this
theorem D4{ks:List Vbavai.Call}(h:∀x∈lO ⟨[]⟩ ks,x.length≤500):(PyFlat.told (lO ⟨[]⟩ ks)).length≤501 * (lO ⟨[]⟩ ks).length:=by
 generalize lO ⟨[]⟩ ks=l at h
 induction l with
 | nil=>simp[PyFlat.told]
 | cons x l ih =>
  have h1:=ih fun y hy=>h y (KH _ hy);have h2:=h x KJ;have e:PyFlat.told (x::l)=((x.length:Int)::x)++PyFlat.told l:=by unfold PyFlat.told;rw[Lz]
  rw[e,Ky,Kx,Kx];omega
theorem zl{f:Addr}{fd:FuncData}(F:yd K "answers" "answers" fc f fd)(T:j3 mg)(M:Kc P w K mg base C CG)(cS:aS P w K mg base C 1 "split_calls" ["calls"] (pW K))(cA:aS P w K mg base C 92 "answer_of" ["graph","number","arguments"] (rm CG)) :
  dh P w K mg base (ic P w C) 93 f fd ["calls"] (tU K):=by
 refine Gn F tX fun cdv A outer s H vs Q E hr h=>?_;obtain⟨a,ks,rfl,hS,hL,h400,k⟩:=h;obtain⟨fi,fdi,mk,GI,hmG,bG⟩:=M.ex;have nd:=tX.nd
 refine⟨_,ae (aE (i:=1) nd rfl (Or.inl rfl) (CI mk GI (hr.mono (by decide)) rfl hmG bG .nil ay))
  (ae (aE (i:=2) nd rfl (Or.inl rfl) (aN aa))
  (ae (gq PassesOwn.leaving rfl (bF (aj cS (hr.mono (by decide)) rfl ay (a8 (pv 0) aa))) (m5 rfl (cu (aO (i:=3) nd rfl (Or.inl rfl)) (cu (aO (i:=4) nd rfl (Or.inl rfl)) iP)))
   (ae (aE (i:=5) nd rfl (Or.inl rfl) (zZ (aj cA hr rfl ay (a8 (pv 1) (a8 (pv 3) (a8 (pv 4) aa))))))
   (ae (bH (fO PySem.F.plainAttrs_list PySem.F.slot_list_append PySem.F.type_list_append ck (pv 2) (a8 (aQ aU rfl T.len boot_len (a8 (pv 5) aa)) aa)))
   (ai (bH (fO PySem.F.plainAttrs_list PySem.F.slot_list_extend PySem.F.type_list_extend ur (pv 2) (a8 (pv 5) aa)))))))
  (ai (aw (pv 2))))),?_⟩
 intro gr dg ngr ndg neg;refine⟨gr,dg,rfl,a9,fun H1 lm ln G1 sb1=>⟨rfl,?_⟩⟩;have s1:aD H H1:=aD.made ngr ndg sb1;refine⟨GS,fun tl htl=>?_⟩;obtain⟨dx1,ho1⟩:=G1.obj;have g_tl:gr≠tl:=aq ho1 htl;have m_tl:lm≠tl:=aq G1.marks htl;have n_tl:ln≠tl:=aq G1.nexts htl;have sN:=ah (o:=.lst []) htl;refine⟨_,rfl,a,ks,rfl,(s1.trans sN).seq hS,hL,fun H2 p ps np hp hC s2=>?_⟩;have np:upd H1 tl (.lst []) p=none:=np;have G2:=(G1.same sN).same s2;have old:∀b,upd H1 tl (.lst []) b=none->b≠lm∧b≠ln∧b≠tl:=fun b hb=>⟨fun z=>(by rw[z,sN _ _ G1.marks] at hb;cases hb),fun z=>(by rw[z,sN _ _ G1.nexts] at hb;cases hb),fun z=>(by rw[z,a9] at hb;cases hb)⟩
 have hCl:=hC.len;have pn:=old p np;refine⟨p,rfl,⟨_,aH.of hp⟩,?_⟩
 refine mO (K:=K) (a:=p) (xs:=ps.map V.ref) (fun i σ H'=>∃(v3 v4 v5:Option V)(ns:List Addr),σ=[some (.ref a),some (.ref gr),some (.ref tl),v3,v4,v5]∧GX CG H' gr lm ln ns (after ⟨[]⟩ (ks.take i)).g∧tl∉ns∧il (after ⟨[]⟩ (ks.take i)).g∧D1 H' tl (PyFlat.told (lO ⟨[]⟩ (ks.take i))) ∧
   (∀x∈lO ⟨[]⟩ (ks.take i),x.length≤500)∧(lO ⟨[]⟩ (ks.take i)).length=(ks.take i).length∧∀b o,H2 b=some o->b≠lm->b≠ln->b≠tl->H' b=some o)
  ⟨none,none,none,[],rfl,G2,LJ,il.nil,s2 _ _ a9,fun x hx=>(by cases hx),rfl,fun b o e _ _ _=>e⟩ (fun i σ H' _ ⟨_,_,_,_,_,_,_,_,_,_,_,kp⟩=>aH.of (kp _ _ hp pn.1 pn.2.1 pn.2.2)) ?_ ?_
 ·rintro i v σ H3 hv ⟨v3,v4,v5,ns,rfl,G3,tn,GO,hT,hb,hpl,kp⟩;rw[Kw] at hv;obtain⟨q,hq,rfl⟩:=KF.mp hv;have hi:i < ks.length:=by rw[←hCl];exact(KQ.mp hq).1
  have hc:ks[i]?=some ks[i]:=Kz hi;generalize ks[i]=c at hc;obtain⟨nq,ar,xs,hq2,na,har,hA⟩:=hC.each i q c hq hc;have kp':∀b o,upd H1 tl (.lst []) b=none->H2 b=some o->H3 b=some o:=fun b o hb e=>kp b o e (old b hb).1 (old b hb).2.1 (old b hb).2.2;refine⟨q,_,rfl,eB.of (kp' _ _ nq hq2),rfl,_,_,rfl,_,_,rfl,rfl,?_⟩;have bl:=D4 hb;rw[hpl,L9] at bl;refine⟨tl,_,hT,trivial,fun od=>?_⟩;refine⟨_,rfl,_,rfl,_,rfl,gr,ar,lm,ln,ns,_,xs,c,rfl,G3.upd g_tl m_tl n_tl tn,GO,(by rw[ak (old _ na).2.2];exact kp' _ _ na har),hA.keep (fun _ _=>trivial) (fun b o hb e=>by rw[ak (old _ hb).2.2];exact kp' _ _ hb e),fun H4 pa ns' G4 b4 s4=>?_⟩
  have ht4:=s4 tl _ a9 m_tl.symm n_tl.symm;refine⟨ht4,?_⟩
  have pat:pa≠tl:=fun z=>by
   rw[z] at b4;have:=ht4.symm.trans b4;cases this
  have tn4:=G4.out ht4;have es:=qW c (ks.take i) ⟨[]⟩;have ep:=tM c (ks.take i) ⟨[]⟩;rw[←bS hc] at es ep;have Jf:=VM.Ej GO.len GO.out c;have b5:upd H4 tl (.lst ((PyFlat.told (lO ⟨[]⟩ (ks.take i))).map V.int)) pa=some (.lst ((Vbavai.step (after ⟨[]⟩ (ks.take i)) c).2.map V.int)):=by rw[ak pat];exact b4
  have ln5:(Vbavai.step (after ⟨[]⟩ (ks.take i)) c).2.length≤500:=Jf;refine⟨_,rfl,.inl ⟨rfl,_,aH.of a9⟩,_,rfl,pa,_,rfl,.inl (aH.of b5),tl,_,_,rfl,rfl,a9,br (by rw[Kv];omega),?_⟩
  refine⟨_,rfl,.inl ⟨rfl,_,aH.of a9⟩,_,rfl,tl,pa,_,_,rfl,rfl,a9,(by rw[ak pat];exact b5),LR (br (by simp only[Ky,Kv,Kx,L0];omega)),?_⟩
  refine⟨_,_,_,ns',rfl,?_,tn4,?_,?_,?_,?_,?_⟩
  ·rw[es];exact((G4.upd g_tl m_tl n_tl tn4).upd g_tl m_tl n_tl tn4).upd g_tl m_tl n_tl tn4
  ·rw[es];show il (Vbavai.step ⟨(after ⟨[]⟩ (ks.take i)).g⟩ c).1.g;unfold Vbavai.step
   by_cases hr:Vbavai.ranged c=false
   ·rw[if_pos hr];exact GO
   ·rw[if_neg hr];exact GO.act (by simpa using hr)
  ·show upd _ tl _ tl=_;rw[a9,ep,Bx,Kv];simp only[KO,KR,Ld,List.cons_append,List.nil_append]
  ·rw[ep];intro x hx;rcases Lb.mp hx with hx | hx
   ·exact hb x hx
   ·rw[Lq.mp hx];exact ln5
  ·rw[ep,bS hc,Ky,Ky,hpl];rfl
  ·intro b o e n1 n2 n3;rw[ak n3,ak n3,ak n3];refine s4 b o ?_ n1 n2;rw[ak n3];exact kp b o e n1 n2 n3
 ·rintro σ H3 ⟨v3,v4,v5,ns,rfl,G3,tn,GO,hT,hb,hpl,kp⟩;rw[Kv,hCl,Lo] at hT;exact⟨_,rfl,k H3 tl hT⟩
structure IC(K:Frag)(mg:Str->Option Value):Prop where
 f_counted:aK K mg "counted" nL
 f_too_large:aK K mg "too_large" jW
 f_negated:aK K mg "negated" ot
 f_some_next:aK K mg "some_next" jt
 f_every_next:aK K mg "every_next" iF
 f_some_time:aK K mg "some_time" kg
 f_some_way_always:aK K mg "some_way_always" eJ
 f_every_way_some_time:aK K mg "every_way_some_time" dj
 f_every_way_always:aK K mg "every_way_always" dX
 f_every_way_until:aK K mg "every_way_until" eC
 f_prefixed:aK K mg "prefixed" lJ
 f_joined:aK K mg "joined" rj
 f_nodes_where:aK K mg "nodes_where" gZ
 f_truth_of:aK K mg "truth_of" ff
 f_has_mark:aK K mg "has_mark" lX
 f_both:aK K mg "both" zt
 f_either:aK K mg "either" rP
 f_unlike:aK K mg "unlike" qT
 f_at_some_next:aK K mg "at_some_next" gu
 f_until:aK K mg "until" uF
 f_one_step_more:aK K mg "one_step_more" fK
 f_for_ever:aK K mg "for_ever" lZ
 f_sign_table:aK K mg "sign_table" iE
 f_words_of:aK K mg "words_of" m9
 f_formula_of:aK K mg "formula_of" iK
 f_want:aK K mg "want" yn
 f_read_formula:aK K mg "read_formula" eF
 f_read_part:aK K mg "read_part" fz
 f_read_bound:aK K mg "read_bound" iW
 f_has_way:aK K mg "has_way" nX
 f_way_shown:aK K mg "way_shown" ju
 f_least_next:aK K mg "least_next" iG
 f_shortest_way:aK K mg "shortest_way" fY
 f_endless_way:aK K mg "endless_way" gN
 f_one_form:aK K mg "one_form" lV
 f_words_written:aK K mg "words_written" fG
 f_holds_call:aK K mg "holds_call" iT
 f_shows_call:aK K mg "shows_call" ja
 f_form_call:aK K mg "form_call" kf
 f_same_call:aK K mg "same_call" k6
 f_node_call:aK K mg "node_call" jD
 f_edge_call:aK K mg "edge_call" jF
 f_cut_call:aK K mg "cut_call" lG
 f_marks_call:aK K mg "marks_call" jb
 f_told_call:aK K mg "told_call" jY
 f_rounds_of:aK K mg "rounds_of" jE
 f_last_classes:aK K mg "last_classes" gm
 f_finer:aK K mg "finer" vN
 f_next_classes:aK K mg "next_classes" gC
 f_numbered:aK K mg "numbered" fZ
 f_parting_round:aK K mg "parting_round" fC
 f_nexts_alone:aK K mg "nexts_alone" i4
 f_by_marks:aK K mg "by_marks" lR
 f_classes_call:aK K mg "classes_call" gB
 f_apart_call:aK K mg "apart_call" j4
 f_quotient_call:aK K mg "quotient_call" fB
 f_split_calls:aK K mg "split_calls" gR
 f_answer_of:aK K mg "answer_of" jI
 f_built:aK K mg "built" vJ
 f_asked:aK K mg "asked" uU
 f_in_range:aK K mg "in_range" lY
structure J0(K:Frag)(CR CG CT:Addr):Prop where
 m_ahead:i6 K CR "ahead" "Reader.ahead" gh
 m_take:i6 K CR "take" "Reader.take" gU
 m_has_node:i6 K CG "has_node" "Graph.has_node" fe
 m_has_dead_end:i6 K CG "has_dead_end" "Graph.has_dead_end" dB
 m_formula_between:i6 K CT "formula_between" "Teller.formula_between" bM
 m_made_between:i6 K CT "made_between" "Teller.made_between" cg
 m_against_each:i6 K CT "against_each" "Teller.against_each" cf
inductive BI(K:Frag)(mg:Str->Option Value)(X qual:Str)(st:Stmt)(CC:Addr):Prop
 | mk (f fd:_):Mk K CC f->yd K "__init__" qual st f fd->mg X=some (.ref CC)->BI K mg X qual st CC
structure J4(K:Frag)(mg:Str->Option Value)(C CF CR CG CT CY:Addr):Prop where
 tF:zq K CF
 tR:qm K CR
 tG:gw K CG
 tT:yu K CT
 tY:GP K CY
 mkF:∃f fd,Mk K CF f∧B8 K "__init__" "Formula.__init__" bR f fd #[.none]∧mg "Formula"=some (.ref CF)
 mkR:BI K mg "Reader" "Reader.__init__" hU CR
 mkG:BI K mg "Graph" "Graph.__init__" iS CG
 mkT:BI K mg "Teller" "Teller.__init__" i5 CT
 mkY:BI K mg "Way" "Way.__init__" m7 CY
 xw:∃N fI fd,XC K C N fI "place"∧yd K "__init__" "WrongWord.__init__" bK fI fd∧mg "WrongWord"=some (.ref C)
structure IH(K:Frag)(mg:Str->Option Value)(w:World):Prop where
 blt:j3 mg
 btxt:HB mg
 rtxt:y9 K mg
 size:∃t,mg "GREATEST_SIZE"=some (.int 40 t)
 turn:∃t,mg "NO_TURN"=some (.int (-1) t)
 signs:∃t,mg "WORD_SIGNS"=some (.str fh t)
 foreign:∃t,mg "FOREIGN_SIGN"=some (.str "?" t)
 last:∃t,mg "LAST_ROUND_TOLD"=some (.int 5 t)
 longest:∃t,mg "LONGEST_TEXT"=some (.int 400 t)
 gbyte:∃t,mg "GREATEST_BYTE"=some (.int 255 t)
 lastb:∃t,mg "LAST_BUILDING"=some (.int 4 t)
 marks:∃a,mg "MARK_WORDS"=some (.ref a)∧∀H,eB K H a (yR.map V.str)
 wde:∃a,mg "WITHOUT_DEAD_ENDS"=some (.ref a)∧∀H,eB K H a WD
 mv:∃d es,lr K mg w "MARK_VALUES" d es∧Fj es
 gr:∃d es,lr K mg w "GREATEST" d es∧JR es
 fo:∃d es,ql K mg "FORMS" d es∧v7 K es
 bl:∃d es,lr K mg w "BUILDERS" d es∧∀CF wd mk g,B4 CF wd mk g->∃f,findBy Value.isStrOf es wd=some (.ref f)∧mg g=some (.ref f)
theorem B8.bindsF{f:Addr}{fd:FuncData}(F:B8 K "__init__" "Formula.__init__" bR f fd #[.none]):d7 K fd ["self","kind","parts","bound"] [.none]∧d7 K fd ["self","kind","parts","bound"] []:=by
 obtain⟨oc,od,kV,doc,pm,an,cdv,ct,osl,Td,oT,n,rfl,lk,hcd,lT,dT⟩:=F.ex;refine⟨fun s us kin hl=>?_,fun s us kin hl=>?_⟩
 ·have hl:us.length=3:=by rw[Ky] at hl;exact Nat.succ.inj hl
  match us,hl with
  | [_,_,_],_=>exact BindsTo.of_defaults rfl (kin _ _ lT) dT rfl rfl
 ·have hl:us.length=4:=by rw[Lp] at hl;exact hl
  match us,hl with
  | [_,_,_,_],_=>exact BindsTo.of_defaults rfl (kin _ _ lT) dT rfl rfl
theorem HI{f:Addr}{fd:FuncData}(F:yd K "answers" "answers" fc f fd)(TF:IC K mg)(TM:J0 K CR CG CT)(TC:J4 K mg C CF CR CG CT CY)(TN:IH K mg w):dh P w K mg base (ic P w C) 93 f fd ["calls"] (tU K):=by
 have T:=TN.blt;have tF:=TC.tF;have tR:=TC.tR;have tG:=TC.tG;have tT:=TC.tT;have tY:=TC.tY;have TR:=TN.rtxt;obtain⟨dv,ev,Mv,Vv⟩:=TN.mv;obtain⟨dg,eg,Mg,Vg⟩:=TN.gr;obtain⟨df,ef,Mf,Vf⟩:=TN.fo;obtain⟨db,eb,Mb,Vb⟩:=TN.bl
 have MF:yQ P w K mg base C CF:=by
  obtain⟨f,fd,mk,F,hm⟩:=TC.mkF;exact⟨f,fd,mk,pz F T tF,hm,F.bindsF.1,F.bindsF.2⟩
 have MR:K1 P w K mg base C CR:=by
  obtain⟨f,fd,mk,F,hm⟩:=TC.mkR;exact⟨f,fd,mk,qV F tR,hm,F.binds fun _ _ _ _ _ _ us hl=>match us,hl with | [_,_],_=>rfl⟩
 have MG:Kc P w K mg base C CG:=by
  obtain⟨f,fd,mk,F,hm⟩:=TC.mkG;exact⟨f,fd,mk,sr F tG,hm,F.binds fun _ _ _ _ _ _ us hl=>match us,hl with | [_],_=>rfl⟩
 have MT:K0 P w K mg base C CT:=by
  obtain⟨f,fd,mk,F,hm⟩:=TC.mkT;exact⟨f,fd,mk,sg F tT,hm,F.binds fun _ _ _ _ _ _ us hl=>match us,hl with | [_,_,_],_=>rfl⟩
 have MY:Jg P w K mg base C CY:=by
  obtain⟨f,fd,mk,F,hm⟩:=TC.mkY;exact⟨f,fd,mk,xW F tY,hm,F.binds fun _ _ _ _ _ _ us hl=>match us,hl with | [_,_,_],_=>rfl⟩
 have W:XW P w K mg base C:=by
  obtain⟨N,fI,fd,X,F,hm⟩:=TC.xw;exact⟨N,fI,fd,X,mR F X,F.binds fun _ _ _ _ _ _ us hl=>match us,hl with | [_,_],_=>rfl,hm⟩
 have c_cnt:aS P w K mg base C 1 "counted" ["numbers"] cz:=yS TF.f_counted T;have c_large:aS P w K mg base C 1 "too_large" ["formula"] (gJ CF):=va TF.f_too_large tF TN.size;have c_neg:aS P w K mg base C 3 "negated" ["inner"] (d6 CF .not):=yw TF.f_negated MF;have c_nex:aS P w K mg base C 3 "some_next" ["inner"] (d6 CF .next):=vp TF.f_some_next MF;have c_alw:aS P w K mg base C 3 "some_way_always" ["inner"] (d6 CF .ever):=lL TF.f_some_way_always MF;have c_tim:aS P w K mg base C 3 "some_time" ["inner"] (d6 CF Vbavai.canCome):=vb TF.f_some_time MF;have c_evn:=sV TF.f_every_next c_neg c_nex;have c_evs:=j7 TF.f_every_way_some_time c_neg c_alw;have c_eva:=kS TF.f_every_way_always c_neg c_tim;have c_evu:=lB TF.f_every_way_until MF c_neg c_alw
 have B:Ka P w K mg base C CF eb:=by
  refine⟨fun wd mk g h=>?_⟩;obtain⟨f,hf,hm⟩:=Vb CF wd mk g h
  have go:∀{sp:Sp}{k:Nat},aS P w K mg base C k g ["inner"] sp->k≤5->∃f,findBy Value.isStrOf eb wd=some (.ref f)∧∃fd,dh P w K mg base (ic P w C) 5 f fd ["inner"] sp∧keepIn K (.ref f)=true∧d7 K fd ["inner"] []:=fun c hk=>by
   obtain⟨f',fd,G,hm',kp,b⟩:=(c.mono hk).ex;rw[hm] at hm';cases hm';exact⟨f,hf,fd,G,kp,b⟩
  cases h with
  | not=>exact go c_neg (by decide)
  | ex=>exact go c_nex (by decide)
  | ax=>exact go c_evn (by decide)
  | ef=>exact go c_tim (by decide)
  | af=>exact go c_evs (by decide)
  | eg=>exact go c_alw (by decide)
  | ag=>exact go c_eva (by decide)
 have c_pre:=xM TF.f_prefixed Mb B;have c_joi:=Bz TF.f_joined MF c_evu;have c_whe:aS P w K mg base C 1 "nodes_where" ["truth"] mD:=qL TF.f_nodes_where T;have c_mar:aS P w K mg base C 1 "has_mark" ["marks","word"] qP:=xN TF.f_has_mark Mv Vv;have c_bot:aS P w K mg base C 1 "both" ["first","second"] (eZ VM.jN):=F2 TF.f_both T;have c_eit:aS P w K mg base C 1 "either" ["first","second"] (eZ VM.eD):=BX TF.f_either T;have c_unl:aS P w K mg base C 1 "unlike" ["first","second"] (eZ VM.fF):=B1 TF.f_unlike T;have c_asn:aS P w K mg base C 1 "at_some_next" ["graph","truth"] (Bm CG):=pB TF.f_at_some_next T tG;have c_osm:=nM TF.f_one_step_more c_eit c_bot c_asn;have c_unt:=Cz TF.f_until T tG c_osm;have c_fev:=wZ TF.f_for_ever T tG c_bot c_asn;have c_tru:=wx TF.f_truth_of T tG tF Mv Vv c_eit c_bot c_mar c_asn c_unt c_fev 40;have c_sgn:aS P w K mg base C 1 "sign_table" [] vA:=sP TF.f_sign_table T TN.signs;have c_wrd:=xP TF.f_words_of TN.foreign c_sgn;have c_ahd:d4 P w K mg base C CR 1 "ahead" ["self"] (fU CR):=Dv TM.m_ahead T tR TR;have c_tak:d4 P w K mg base C CR 1 "take" ["self"] (jO CR):=ES TM.m_take tR;have c_wan:=EZ TF.f_want tR W c_ahd;have c_bnd:=sQ TF.f_read_bound T tR TR c_ahd c_tak;have c_rds:=xp TF.f_read_part TF.f_read_formula tR TR MF W c_ahd c_tak c_pre c_wan c_bnd c_joi 40;have c_fof:=sM TF.f_formula_of tR TR MR c_wrd c_rds.2 c_wan;have c_has:d4 P w K mg base C CG 1 "has_node" ["self","node"] (mL CG):=xY TM.m_has_node T tG;have c_ded:d4 P w K mg base C CG 1 "has_dead_end" ["self"] (vE CG):=pH TM.m_has_dead_end T tG;have c_nod:aS P w K mg base C 1 "node_call" ["graph","arguments"] (jh CG uI):=vk TF.f_node_call T tG TN.btxt;have c_edg:=uz TF.f_edge_call T tG TN.btxt c_has;have c_cut:=wm TF.f_cut_call T tG c_has;have c_mks:=sA TF.f_marks_call tG c_has;have c_tol:=ux TF.f_told_call T tG c_has c_cnt;have c_blt:=Ek TF.f_built c_nod c_edg c_cut c_mks c_tol;have c_hol:=su TF.f_holds_call c_large c_cnt c_fof c_tru c_whe;have c_sam:=ve TF.f_same_call W c_large c_cnt c_fof c_tru c_whe c_unl
 have c_wwr:aS P w K mg base C (40+1) "words_written" ["formula"] (F3 CF 40):=nJ TF.f_words_written T tF 40;have c_one:=xt TF.f_one_form T c_wwr;have c_frm:=vM (CG:=CG) TF.f_form_call c_large c_cnt c_fof c_one;have c_lea:aS P w K mg base C 1 "least_next" ["graph","truth","node"] (kN CG):=sO TF.f_least_next T tG;have c_sho:=pI TF.f_shortest_way T TN.turn MY c_osm c_lea;have c_end:=qQ TF.f_endless_way MY c_lea;have c_hwy:aS P w K mg base C 1 "has_way" ["formula"] (nh CF):=zk TF.f_has_way tF;have c_wsh:=vD TF.f_way_shown tF TN.turn MY c_tru c_lea c_sho c_end;have c_shw:=sW TF.f_shows_call tG tY c_has c_large c_cnt c_fof c_tru c_hwy c_wsh;have c_nxc:aS P w K mg base C 1 "next_classes" ["graph","classes","node"] (kG CG):=pG TF.f_next_classes T tG;have c_nmI:aS P w K mg base C 1 "numbered" ["signs"] vw:=uL TF.f_numbered T;have c_nmP:aS P w K mg base C 1 "numbered" ["signs"] uD:=vS TF.f_numbered T;have c_fin:=Dt TF.f_finer T c_nxc c_nmP;have c_rnd:=vH TF.f_rounds_of T tG c_nmI c_fin;have c_las:=pE TF.f_last_classes c_rnd;have c_par:aS P w K mg base C 1 "parting_round" ["rounds","first","second"] fX:=ou TF.f_parting_round T;have c_cla:=p8 TF.f_classes_call c_las c_cnt;have c_quo:=ow TF.f_quotient_call T tG c_las c_cnt c_nxc;have c_nxa:aS P w K mg base C 1 "nexts_alone" ["graph","classes","node","other"] (mh CG):=qt TF.f_nexts_alone tG;have c_bym:=xZ TF.f_by_marks TN.marks MF c_mar c_neg;have c_btw:=qX TM.m_formula_between TM.m_made_between TM.m_against_each T tT tG MF c_par c_bym c_nxa c_nex c_neg 6;have c_apa:=sX TF.f_apart_call tG tT MT TN.last c_has c_large c_cnt c_rnd c_par c_btw c_one;have c_ask:=Eh TF.f_asked c_hol c_shw c_frm c_cla c_apa c_quo c_sam;have c_rng:aS P w K mg base C 1 "in_range" ["kind","value"] nB:=wu TF.f_in_range T TN.longest TN.gbyte Mg Vg;have c_ans:=vK TF.f_answer_of T tG W Mf Vf TN.wde TN.lastb c_rng c_ded c_blt c_ask;have c_spl:aS P w K mg base C 1 "split_calls" ["calls"] (pW K):=rg TF.f_split_calls T Mf Vf;exact zl F T MG c_spl c_ans
end Can
namespace L2
open PySem PySem.Spec PyProof.Rows
open PySem.W (WData Codec OpenSpec Well WellAll ReadsW ReadsAllW)
mutual
inductive Dw(K:Frag)(H:Hp):V->WData->Prop
 | non:Dw K H .non .none
 | bl (b:Bool):Dw K H (.bl b) (.bool b)
 | int (i:Int):Dw K H (.int i) (.int i)
 | str (x:Str):Dw K H (.str x) (.str x)
 | byt (b:Array UInt8):Dw K H (.byt b) (.bytes b.toList)
 | lst {a:Addr} {xs:List V} {ds:List WData}:aH K H a xs->jZ K H xs ds->Dw K H (.ref a) (.list ds)
 | tup {a:Addr} {xs:List V} {ds:List WData}:eB K H a xs->jZ K H xs ds->Dw K H (.ref a) (.tuple ds)
inductive jZ(K:Frag)(H:Hp):List V->List WData->Prop
 | nil:jZ K H [] []
 | cons {v:V} {vs:List V} {d:WData} {ds:List WData}:Dw K H v d->jZ K H vs ds->jZ K H (v::vs) (d::ds)
end
theorem AR{K:Frag}{H:Hp}:∀ns:List Int,jZ K H (ns.map V.int) (ns.map WData.int)
 | []=>.nil
 | n::r=>.cons (.int n) (AR r)
theorem Ai{K:Frag}{H:Hp}:∀(ns:List Int)(xs:List V),jZ K H xs (ns.map WData.int)->xs=ns.map V.int
 | [],xs,h=>by
  cases h;rfl
 | n::r,xs,h=>by
  cases h with
  | cons h1 h2 =>
   cases h1;rw[Ai r _ h2]<;>rfl
section
variable{P:Program}{w:World}{K:Frag}{H:Hp}{h:Heap}{R:PySem.W.WRecords}{cl:Str->Option Addr}
theorem GV{a:Addr}{xs:List V}(hok:fN P w H h)(KX:K.In h)(q:aH K H a xs):∃(its:List Value)(o:Obj)(n:Nat),b8 xs its∧h.get? a=some o∧o.cls=.type "list"∧o.data=.seq its.toArray n:=by
 rcases q with q | ⟨o,its,n,e,hc,_,hd,_,hv⟩
 ·obtain⟨_,its,n,hv,e⟩:=(show bB P w H h a (.lst xs) from q.ok hok)
  exact⟨its,_,n,hv,e,rfl,rfl⟩
 ·exact⟨its.toList,o,n,hv,KX _ _ e,hc,by simp[hd]⟩
theorem Ho{a:Addr}{xs:List V}(hok:fN P w H h)(KX:K.In h)(q:eB K H a xs):∃(its:List Value)(o:Obj)(n:Nat),b8 xs its∧h.get? a=some o∧o.cls=.type "tuple"∧o.data=.seq its.toArray n:=by
 rcases q with q | ⟨o,its,n,e,hc,hd,_,hv⟩
 ·obtain⟨_,its,hv,o,e,hc,n,hd⟩:=(show bB P w H h a (.tup xs) from q.ok hok)
  exact⟨its,o,n,hv,e,hc,hd⟩
 ·exact⟨its.toList,o,n,hv,KX _ _ e,hc,by simp[hd]⟩
mutual
theorem Dw.reads(hok:fN P w H h)(KX:K.In h):∀(d:WData)(v:V)(u:Value),Dw K H v d->bg v u->∃as,ReadsW R cl h u d as
 | .none,_,_,x,r=>by
  cases x;cases r;exact⟨_,ReadsW.none⟩
 | .bool b,_,_,x,r=>by
  cases x;cases r;exact⟨_,ReadsW.bool b⟩
 | .int i,_,_,x,r=>by
  cases x;obtain⟨t,rfl⟩:=r;exact⟨_,ReadsW.int i t⟩
 | .str s,_,_,x,r=>by
  cases x;obtain⟨t,rfl⟩:=r;exact⟨_,ReadsW.str s t⟩
 | .bytes b,_,_,x,r=>by
  cases x;obtain⟨t,rfl⟩:=r;exact⟨_,ReadsW.bytes _ t⟩
 | .list ds,_,_,x,r=>by
  cases x with
  | lst hs ha =>
   cases r;obtain⟨its,o,n,rv,ho,hc,hd⟩:=GV hok KX hs;obtain⟨as,hr⟩:=Dw.readsAll hok KX ds _ its ha rv;exact⟨_,ReadsW.list ho hc hd hr⟩
 | .tuple ds,_,_,x,r=>by
  cases x with
  | tup hs ha =>
   cases r;obtain⟨its,o,n,rv,ho,hc,hd⟩:=Ho hok KX hs;obtain⟨as,hr⟩:=Dw.readsAll hok KX ds _ its ha rv;exact⟨_,ReadsW.tuple ho hc hd hr⟩
 | .float _,_,_,x,_=>by cases x
 | .dict _,_,_,x,_=>by cases x
 | .bytearray _,_,_,x,_=>by cases x
 | .set _,_,_,x,_=>by cases x
 | .frozenset _,_,_,x,_=>by cases x
 | .obj _ _,_,_,x,_=>by cases x
theorem Dw.readsAll(hok:fN P w H h)(KX:K.In h):∀(ds:List WData)(vs:List V)(us:List Value),jZ K H vs ds->b8 vs us->∃as,ReadsAllW R cl h us ds as
 | [],_,_,x,r=>by
  cases x;cases r;exact⟨_,ReadsAllW.nil⟩
 | d::ds,_,_,x,r=>by
  cases x with
  | cons h1 h2 =>
   cases r with
   | cons r1 r2 =>
    obtain⟨as,q1⟩:=Dw.reads hok KX d _ _ h1 r1;obtain⟨bs,q2⟩:=Dw.readsAll hok KX ds _ _ h2 r2;exact⟨_,ReadsAllW.cons q1 q2⟩
end
end
mutual
def AI:WData->Bool
 | .none=>true
 | .bool _=>true
 | .int _=>true
 | .str _=>true
 | .bytes _=>true
 | .list xs=>ph xs
 | .tuple xs=>ph xs
 | _=>false
def ph:List WData->Bool
 | []=>true
 | x::r=>AI x&&ph r
end
theorem y1{α:Type}{f:α->WData}(h:∀a,AI (f a)=true):∀l:List α,ph (l.map f)=true
 | []=>rfl
 | x::r=>by
  show(AI (f x)&&ph (r.map f))=true;rw[h x,y1 h r]<;>rfl
theorem kj:∀(c:Codec)(a:c.denote),AI (c.enc a)=true
 | .unit,_=>rfl
 | .bool,_=>rfl
 | .int _ _,_=>rfl
 | .nat _ _,_=>rfl
 | .u8,_=>rfl
 | .bytes _ _,_=>rfl
 | .text _ _ _ _,_=>rfl
 | .list _ _ c,a=>y1 (fun x=>kj c x) a
 | .pair c d,a=>by
  show(AI (c.enc a.1)&&(AI (d.enc a.2)&&true))=true;rw[kj c a.1,kj d a.2]<;>rfl
 | .triple c d e,a=>by
  show(AI (c.enc a.1)&&(AI (d.enc a.2.1)&&(AI (e.enc a.2.2)&&true)))=true;rw[kj c a.1,kj d a.2.1,kj e a.2.2]<;>rfl
 | .option c,none=>rfl
 | .option c,some x=>kj c x
theorem tI:∀(cs:List Codec)(a:Codec.denoteAll cs),ph (Codec.encAll cs a)=true
 | [],_=>rfl
 | c::cs,a=>by
  show(AI (c.enc a.1)&&ph (Codec.encAll cs a.2))=true;rw[kj c a.1,tI cs a.2]<;>rfl
theorem lC:∀{xs:List WData}{d:WData},d∈xs->d.weight≤WData.weightAll xs
 | [],d,h=>absurd h (by simp)
 | x::r,d,h=>by
  show d.weight≤x.weight+1+WData.weightAll r;rcases List.mem_cons.mp h with e | m
  ·rw[e];omega
  ·have z:=lC m;omega
def xA:Value->V
 | .none=>.non
 | .bool b=>.bl b
 | .int i _=>.int i
 | .str x _=>.str x
 | .bytes b _=>.byt b
 | .ref a=>.ref a
 | _=>.non
def BA(A:List Addr):Value->Prop
 | .none=>True
 | .bool _=>True
 | .int _ _=>True
 | .str _ _=>True
 | .bytes _ _=>True
 | .ref a=>a∈A
 | _=>False
theorem BA.mono{A B:List Addr}(h:∀a∈A,a∈B):∀{u:Value},BA A u->BA B u:=fun{u} x=>by
 cases u with
 | ref a=>exact h a x
 | none=>trivial
 | bool b=>trivial
 | int i t=>trivial
 | str s t=>trivial
 | bytes b t=>trivial
 | _=>exact False.elim x
theorem Eu{A:List Addr}{u:Value}(x:BA A u):bg (xA u) u:=by
 cases u with
 | ref a=>rfl
 | none=>rfl
 | bool b=>rfl
 | int i t=>exact⟨t,rfl⟩
 | str s t=>exact⟨t,rfl⟩
 | bytes b t=>exact⟨t,rfl⟩
 | _=>exact False.elim x
theorem iC{A:List Addr}:∀{vs:List Value},(∀u∈vs,BA A u)->b8 (vs.map xA) vs
 | [],_=>.nil
 | u::r,h=>.cons (Eu (h u (KJ ..))) (iC fun x hx=>h x (KH _ hx))
def jd(h:Heap)(A:List Addr)(a:Addr):Prop:=∃vs:List Value,vs.length≤sizeLine∧(∀u∈vs,BA A u) ∧
 (h.get? a=some {cls:=.type "list",data:=.seq vs.toArray}∨h.get? a=some {cls:=.type "tuple",data:=.seq vs.toArray})
theorem jd.mono{h:Heap}{A B:List Addr}{a:Addr}(k:∀a∈A,a∈B)(x:jd h A a):jd h B a:=by
 obtain⟨vs,h1,h2,h3⟩:=x;exact⟨vs,h1,fun u hu=>(h2 u hu).mono k,h3⟩
theorem gK{P:Params}{h:Heap}:∀{vs:List Value}{ds:List WData},WellAll P h vs ds->vs.length=ds.length
 | _,_,.nil=>rfl
 | _,_,.cons _ b=>by
  show _+1=_+1;rw[gK b]
theorem ub{P:Params}{h:Heap}{v:Value}{ds:List WData}(x:Well P h v (.list ds)):∃(a:Addr)(vs:List Value),v=.ref a∧h.get? a=some {cls:=.type "list",data:=.seq vs.toArray}∧WellAll P h vs ds:=by
 cases x with
 | list ho hall=>exact⟨_,_,rfl,ho,hall⟩
theorem rZ{P:Params}{h:Heap}{v:Value}{ds:List WData}(x:Well P h v (.tuple ds)):∃(a:Addr)(vs:List Value),v=.ref a∧h.get? a=some {cls:=.type "tuple",data:=.seq vs.toArray}∧WellAll P h vs ds:=by
 cases x with
 | tuple ho hall=>exact⟨_,_,rfl,ho,hall⟩
theorem uu{P:Params}{h:Heap}{us:List Value}{d:WData}{ds:List WData}(x:WellAll P h us (d::ds)):∃(v:Value)(vs:List Value),us=v::vs∧Well P h v d∧WellAll P h vs ds:=by
 cases x with
 | cons a b=>exact⟨_,_,rfl,a,b⟩
theorem Ah{n:Nat}(h:n≤1048576):n≤sizeLine:=Lh h (by decide)
section
variable{P:Params}{h:Heap}
mutual
theorem Ed:∀(d:WData)(v:Value),Well P h v d->AI d=true->d.weight≤1048576->∃A:List Addr,BA A v∧∀a∈A,jd h A a
 | .none,_,x,_,_=>by
  cases x;exact⟨[],trivial,fun a m=>absurd m (by simp)⟩
 | .bool b,_,x,_,_=>by
  cases x;exact⟨[],trivial,fun a m=>absurd m (by simp)⟩
 | .int i,_,x,_,_=>by
  cases x;exact⟨[],trivial,fun a m=>absurd m (by simp)⟩
 | .str s,_,x,_,_=>by
  cases x;exact⟨[],trivial,fun a m=>absurd m (by simp)⟩
 | .bytes b,_,x,_,_=>by
  cases x;exact⟨[],trivial,fun a m=>absurd m (by simp)⟩
 | .list ds,_,x,p,z=>by
  obtain⟨a,vs,rfl,ho,hall⟩:=ub x;have z2:WData.weightAll ds≤1048576:=z;obtain⟨A,h1,h2⟩:=mx ds _ hall p fun d hd=>Lh (lC hd) z2;have k:∀b∈A,b∈a::A:=fun b hb=>KH _ hb;refine⟨a::A,KJ ..,fun b hb=>?_⟩;rcases List.mem_cons.mp hb with e | m
  ·rw[e];exact⟨vs,Ah (by rw[gK hall];exact Lh (PySem.W.length_le_weightAllW ds) z2),fun u hu=>(h1 u hu).mono k,.inl ho⟩
  ·exact(h2 b m).mono k
 | .tuple ds,_,x,p,z=>by
  obtain⟨a,vs,rfl,ho,hall⟩:=rZ x;have z2:WData.weightAll ds≤1048576:=z;obtain⟨A,h1,h2⟩:=mx ds _ hall p fun d hd=>Lh (lC hd) z2;have k:∀b∈A,b∈a::A:=fun b hb=>KH _ hb;refine⟨a::A,KJ ..,fun b hb=>?_⟩;rcases List.mem_cons.mp hb with e | m
  ·rw[e];exact⟨vs,Ah (by rw[gK hall];exact Lh (PySem.W.length_le_weightAllW ds) z2),fun u hu=>(h1 u hu).mono k,.inr ho⟩
  ·exact(h2 b m).mono k
 | .float _,_,_,p,_=>Bool.noConfusion (show false=true from p)
 | .dict _,_,_,p,_=>Bool.noConfusion (show false=true from p)
 | .bytearray _,_,_,p,_=>Bool.noConfusion (show false=true from p)
 | .set _,_,_,p,_=>Bool.noConfusion (show false=true from p)
 | .frozenset _,_,_,p,_=>Bool.noConfusion (show false=true from p)
 | .obj _ _,_,_,p,_=>Bool.noConfusion (show false=true from p)
theorem mx:∀(ds:List WData)(vs:List Value),WellAll P h vs ds->ph ds=true->(∀d∈ds,d.weight≤1048576)->∃A:List Addr,(∀u∈vs,BA A u)∧∀a∈A,jd h A a
 | [],_,x,_,_=>by
  cases x;exact⟨[],fun u m=>absurd m (by simp),fun a m=>absurd m (by simp)⟩
 | d::ds,_,x,p,z=>by
  obtain⟨v,vs,rfl,x1,x2⟩:=uu x;have q:AI d=true∧ph ds=true:=Ly.mp p;obtain⟨A,a1,a2⟩:=Ed d v x1 q.1 (z d (KJ ..));obtain⟨B,b1,b2⟩:=mx ds vs x2 q.2 fun e he=>z e (KH _ he);have kA:∀b∈A,b∈A++B:=fun b hb=>Lb.mpr (.inl hb);have kB:∀b∈B,b∈A++B:=fun b hb=>Lb.mpr (.inr hb);refine⟨A++B,fun u hu=>?_,fun b hb=>?_⟩
  ·rcases List.mem_cons.mp hu with e | m
   ·rw[e];exact a1.mono kA
   ·exact(b1 u m).mono kB
  ·rcases Lb.mp hb with m | m
   ·exact(a2 b m).mono kA
   ·exact(b2 b m).mono kB
end
end
def FQ(o:Obj):Option HO:=match o.data with
 | .seq vs _=>if(o.cls==Value.type "list")=true then some (.frz o (.lst (vs.toList.map xA))) else some (.frz o (.tup (vs.toList.map xA)))
 | _=>none
def iR(K:Frag)(h:Heap)(A:List Addr):Hp:=fun b=>if b∈A then(if(K.lookup b).isNone=true then(h.get? b).bind FQ else none) else none
def A0(H:Hp):Prop:=∀b,H b=none∨∃o u,H b=some (.frz o u)
theorem x4(vs:List Value):FQ {cls:=.type "list",data:=.seq vs.toArray}=some (.frz {cls:=.type "list",data:=.seq vs.toArray} (.lst (vs.map xA))):=by
 show(if(Value.type "list"==Value.type "list")=true then some (HO.frz {cls:=.type "list",data:=.seq vs.toArray} (.lst (vs.toArray.toList.map xA))) else some (HO.frz {cls:=.type "list",data:=.seq vs.toArray} (.tup (vs.toArray.toList.map xA))))=_;rw[if_pos (beq_self_eq_true _)]
theorem y8(vs:List Value):FQ {cls:=.type "tuple",data:=.seq vs.toArray}=some (.frz {cls:=.type "tuple",data:=.seq vs.toArray} (.tup (vs.map xA))):=by
 show(if(Value.type "tuple"==Value.type "list")=true then some (HO.frz {cls:=.type "tuple",data:=.seq vs.toArray} (.lst (vs.toArray.toList.map xA))) else some (HO.frz {cls:=.type "tuple",data:=.seq vs.toArray} (.tup (vs.toArray.toList.map xA))))=_;rw[if_neg (by decide)]
section
variable{P:Program}{w:World}{K:Frag}{h:Heap}{A:List Addr}
theorem qc{b:Addr}{o:Obj}(hb:b∈A)(hk:K.lookup b=none)(e:h.get? b=some o):iR K h A b=FQ o:=by
 unfold iR;rw[if_pos hb,hk,if_pos (show(none:Option Obj).isNone=true from rfl),e]<;>rfl
theorem Fq{b:Addr}{u:HO}(q:iR K h A b=some u):b∈A∧K.lookup b=none:=by
 unfold iR at q
 by_cases hb:b∈A
 ·rw[if_pos hb] at q;cases hk:K.lookup b with
  | none=>exact⟨hb,rfl⟩
  | some o =>
   rw[hk,if_neg (by simp)] at q
   cases q
 ·rw[if_neg hb] at q;cases q
theorem q0(ar:∀a∈A,jd h A a){b:Addr}{u:HO}(q:iR K h A b=some u):K.lookup b=none∧∃vs:List Value,vs.length≤sizeLine∧(∀u∈vs,BA A u) ∧
  ((h.get? b=some {cls:=.type "list",data:=.seq vs.toArray}∧u=.frz {cls:=.type "list",data:=.seq vs.toArray} (.lst (vs.map xA))) ∨
   (h.get? b=some {cls:=.type "tuple",data:=.seq vs.toArray}∧u=.frz {cls:=.type "tuple",data:=.seq vs.toArray} (.tup (vs.map xA)))):=by
 obtain⟨hb,hk⟩:=Fq q;obtain⟨vs,h1,h2,h3⟩:=ar b hb;refine⟨hk,vs,h1,h2,?_⟩;rcases h3 with e | e
 ·rw[qc hb hk e,x4] at q;exact .inl ⟨e,(LS q).symm⟩
 ·rw[qc hb hk e,y8] at q;exact .inr ⟨e,(LS q).symm⟩
theorem Bb(ar:∀a∈A,jd h A a):A0 (iR K h A):=fun b=>by
 cases q:iR K h A b with
 | none=>exact .inl rfl
 | some u =>
  obtain⟨_,vs,_,_,⟨_,e⟩ | ⟨_,e⟩⟩:=q0 ar q
  ·exact .inr ⟨_,_,by rw[e]⟩
  ·exact .inr ⟨_,_,by rw[e]⟩
theorem FD(ar:∀a∈A,jd h A a):fN P w (iR K h A) h:=fun b u q=>by
 obtain⟨_,vs,h1,h2,⟨e,rfl⟩ | ⟨e,rfl⟩⟩:=q0 ar q
 ·exact⟨e,by rw[Kv];exact h1,vs,_,iC h2,e⟩
 ·exact⟨e,by rw[Kv];exact h1,vs,iC h2,_,e,rfl,_,rfl⟩
theorem pR{c c':Value}{vs us:List Value}(e:(some {cls:=c,data:=.seq vs.toArray}:Option Obj)=some {cls:=c',data:=.seq us.toArray}):c=c'∧vs=us:=by
 have e1:=LS e;have e2:c=c':=congrArg Obj.cls e1;have e3:Data.seq vs.toArray=Data.seq us.toArray:=congrArg Obj.data e1;injection e3 with e4
 refine⟨e2,?_⟩;have e5:=congrArg Array.toList e4;simpa using e5
theorem Jw(KX:K.In h)(ar:∀a∈A,jd h A a){a:Addr}{vs:List Value}(ha:a∈A)(e:h.get? a=some {cls:=.type "list",data:=.seq vs.toArray}):(∀u∈vs,BA A u)∧aH K (iR K h A) a (vs.map xA):=by
 obtain⟨us,h1,h2,h3⟩:=ar a ha
 have hu:us=vs:=by
  rcases h3 with q | q
  ·rw[e] at q;exact(pR q).2.symm
  ·rw[e] at q;exact absurd (Value.type.inj (pR q).1) (by decide)
 subst hu;refine⟨h2,?_⟩;cases hk:K.lookup a with
 | none=>exact .inl (.inr ⟨_,by rw[qc ha hk e,x4]⟩)
 | some o =>
  have e2:=KX a o hk;rw[e] at e2;obtain rfl:=LS e2;exact .inr ⟨_,us.toArray,_,hk,rfl,rfl,rfl,by rw[KW];exact h1,by simpa using iC h2⟩
theorem Jz(KX:K.In h)(ar:∀a∈A,jd h A a){a:Addr}{vs:List Value}(ha:a∈A)(e:h.get? a=some {cls:=.type "tuple",data:=.seq vs.toArray}):(∀u∈vs,BA A u)∧eB K (iR K h A) a (vs.map xA):=by
 obtain⟨us,h1,h2,h3⟩:=ar a ha
 have hu:us=vs:=by
  rcases h3 with q | q
  ·rw[e] at q;exact absurd (Value.type.inj (pR q).1) (by decide)
  ·rw[e] at q;exact(pR q).2.symm
 subst hu;refine⟨h2,?_⟩;cases hk:K.lookup a with
 | none=>exact .inl (.inr ⟨_,by rw[qc ha hk e,y8]⟩)
 | some o =>
  have e2:=KX a o hk;rw[e] at e2;obtain rfl:=LS e2;exact .inr ⟨_,us.toArray,_,hk,rfl,rfl,by rw[KW];exact h1,by simpa using iC h2⟩
mutual
theorem He{Pm:Params}(KX:K.In h)(ar:∀a∈A,jd h A a):∀(d:WData)(v:Value),Well Pm h v d->AI d=true->BA A v->Dw K (iR K h A) (xA v) d
 | .none,_,x,_,_=>by
  cases x;exact .non
 | .bool b,_,x,_,_=>by
  cases x;exact .bl b
 | .int i,_,x,_,_=>by
  cases x;exact .int i
 | .str s,_,x,_,_=>by
  cases x;exact .str s
 | .bytes b,_,x,_,_=>by
  cases x;have z:=Dw.byt (K:=K) (H:=iR K h A) b.toArray;exact z
 | .list ds,_,x,p,hu=>by
  obtain⟨a,vs,rfl,ho,hall⟩:=ub x;obtain⟨h2,hs⟩:=Jw KX ar hu ho;exact .lst hs (uZ KX ar ds _ hall p h2)
 | .tuple ds,_,x,p,hu=>by
  obtain⟨a,vs,rfl,ho,hall⟩:=rZ x;obtain⟨h2,hs⟩:=Jz KX ar hu ho;exact .tup hs (uZ KX ar ds _ hall p h2)
 | .float _,_,_,p,_=>Bool.noConfusion (show false=true from p)
 | .dict _,_,_,p,_=>Bool.noConfusion (show false=true from p)
 | .bytearray _,_,_,p,_=>Bool.noConfusion (show false=true from p)
 | .set _,_,_,p,_=>Bool.noConfusion (show false=true from p)
 | .frozenset _,_,_,p,_=>Bool.noConfusion (show false=true from p)
 | .obj _ _,_,_,p,_=>Bool.noConfusion (show false=true from p)
theorem uZ{Pm:Params}(KX:K.In h)(ar:∀a∈A,jd h A a):∀(ds:List WData)(vs:List Value),WellAll Pm h vs ds->ph ds=true->(∀u∈vs,BA A u)->jZ K (iR K h A) (vs.map xA) ds
 | [],_,x,_,_=>by
  cases x;exact .nil
 | d::ds,_,x,p,hu=>by
  obtain⟨v,vs,rfl,x1,x2⟩:=uu x;have q:AI d=true∧ph ds=true:=Ly.mp p;exact .cons (He KX ar d v x1 q.1 (hu _ (KJ ..))) (uZ KX ar ds vs x2 q.2 fun u m=>hu u (KH _ m))
end
end
theorem BW{P:Program}{w:World}{K:Frag}{mg mb:Str->Option Value}{CX:Cc}{k:Nat}{fa:Addr}{fd:FuncData}{ps:List Str}{sp:Sp}{s₁:Shared}{vals:List Value}{ds:List WData}{R:PySem.W.WRecords}{cl:Str->Option Addr}{d0:WData}
  (KX:K.In s₁.heap)(hns:s₁.heap.Ns mainGlobals mg)(hb:s₁.heap.Ns builtinsNs mb)(hbb:∀x:Str,x≠"__name__"->mb x=bootBuiltins x)(hlim:s₁.heap.NoLimit)(hg:s₁.gens=#[])
  (hwl:WellAll w.params s₁.heap vals ds)(hpl:ph ds=true)(hwt:∀d∈ds,d.weight≤1048576)(hr:cX k callerA)
  (F:∀base:Heap,K.In base->base.Ns mainGlobals mg->dh P w K mg base CX k fa fd ps sp)(hbind:∀(s:Shared) (us:List Value),us.length=ps.length->BindsTo s fd ⟨us,[]⟩ (ps.zip us))(hlen:ds.length=ps.length)
  (hsp:∀(H:Hp) (xs:List V),A0 H->jZ K H xs ds->sp xs H (fun v H'=>Dw K H' v d0) fun _ _ _=>False)
  (hCX:∀H e s',CX [] H s₁ (fun _ _ _=>False) e s'->False) :
  codeAny (model P w) callerA (.call (.ref fa) ⟨vals,[]⟩) (fun r s'=>∃u as,r=.ok (.ret u)∧ReadsW R cl s'.heap u d0 as∧OldK s₁.heap s'.heap∧s'.os=s₁.os∧AllBare s'.gens) s₁:=by
 obtain⟨A,ho,ar⟩:=mx ds vals hwl hpl hwt;have hO:A0 (iR K s₁.heap A):=Bb ar;have hok:fN P w (iR K s₁.heap A) s₁.heap:=FD ar;have hS:=uZ KX ar ds vals hwl hpl ho;have hV:=iC ho;have hK:∀b u,iR K s₁.heap A b=some u->K.lookup b=none:=fun b u q=>(q0 ar q).1
 have noA:∀{b:Addr}{o:Obj}{es:Array DictEntry}{ep:Nat},s₁.heap.get? b=some o->o.data=.dict es ep->iR K s₁.heap A b=none:=fun{b o es ep} e d=>by
  cases q:iR K s₁.heap A b with
  | none=>rfl
  | some u =>
   obtain⟨_,vs,_,_,⟨e2,_⟩ | ⟨e2,_⟩⟩:=q0 ar q
   ·rw[e2] at e;cases e;have d':Data.seq vs.toArray _=Data.dict es ep:=d;cases d'
   ·rw[e2] at e;cases e;have d':Data.seq vs.toArray _=Data.dict es ep:=d;cases d'
 generalize iR K s₁.heap A=H at hO hok hS hK noA;have base_of:∀{b:Addr}{o:Obj},s₁.heap.get? b=some o->H b=none->(uN s₁.heap H).get? b=some o:=fun e n=>DZ e n;have nsK:∀{b:Addr}{m:Str->Option Value},s₁.heap.Ns b m->(uN s₁.heap H).Ns b m:=fun{b m} ⟨o,es,ep,e,d,r⟩=>⟨o,es,ep,base_of e (noA e d),d,r⟩
 have nK:∀b o,K.lookup b=some o->H b=none:=fun b o e=>by
  cases q:H b with
  | none=>rfl
  | some u =>
   rw[hK b u q] at e;cases e
 have hKb:K.In (uN s₁.heap H):=fun b o e=>base_of (KX b o e) (nK b o e);have hM:Jh K mg (uN s₁.heap H):=⟨hKb,nsK hns,⟨mb,nsK hb,hbb⟩,let ⟨mc,h1,h2⟩:=hlim;⟨mc,nsK h1,h2⟩⟩;have e0:yX P w K mg (uN s₁.heap H) callerA [] s₁ H:=⟨rfl,hM,fun b o e=>FG e,LU (BD _ _),trivial,fun b hb=>absurd (show b∈([]:List Addr) from hb) (by simp),hok,.of_eq hg⟩
 have hl:vals.length=ps.length:=by rw[gK hwl];exact hlen
 refine codeAny_mono ((F _ hKb (nsK hns)).run callerA [] s₁ H ⟨vals,[]⟩ vals (vals.map xA) _ _ hr e0 (hbind s₁ vals hl) hV (hsp H _ hO hS)) fun r s' x=>?_;cases r with
 | error e=>exact(hCX H e s' x).elim
 | ok fl =>
  cases fl with
  | next=>exact False.elim x
  | brk=>exact False.elim x
  | cont=>exact False.elim x
  | ret u =>
   obtain⟨v,H',os,bare,un,hok',r',q⟩:=x
   have kept:∀b o,s₁.heap.get? b=some o->s'.heap.get? b=some o:=fun b o e=>by
    cases q2:H b with
    | none=>exact un.keep b o e q2 (by intro z;exact absurd (show b∈([]:List Addr) from z) (by simp)) (by simp)
    | some u2 =>
     rcases hO b with z | ⟨ob,u3,z⟩
     ·rw[q2] at z;cases z
     ·have z2:=un.frzs b ob _ z;obtain⟨e1,_⟩:=hok b _ z;obtain⟨e2,_⟩:=hok' b _ z2;rw[e] at e1;cases e1;exact e2
   have KX':K.In s'.heap:=fun b o e=>kept b o (KX b o e);obtain⟨as,hrd⟩:=Dw.reads (R:=R) (cl:=cl) hok' KX' d0 v u q r';exact⟨u,as,rfl,hrd,OldK.of_keep kept,os,bare⟩
theorem qN{ds:List WData}(h:WData.layableAll ds=true):∀d∈ds,d.weight≤1048576:=fun d hd =>
 (PySem.W.layableW_iff.mp (List.all_eq_true.mp h d hd)).2.2
theorem qZ:∀(cs:List Codec)(a:Codec.denoteAll cs),(Codec.encAll cs a).length=cs.length
 | [],_=>rfl
 | c::cs,a=>by
  show(Codec.encAll cs a.2).length+1=cs.length+1;rw[qZ cs a.2]
theorem C3{r:OpenSpec}{k:Nat}{q:Program}{loose:List Str}{XP:(Str->Option Value)->Heap->Prop}{YP:World->Heap->Prop}{d:DefRec}{K:Params->Frag}{CX:World->Cc}{ps:List Str}{sp:World->Sp}
  (hwell:r.wellSaid=true)(hdf:d.params.defaults=[])(hlen:r.args.length=ps.length)(hr:cX k callerA)
  (hY:∀(w:World) (h:Heap),YP w h->(K w.params).In h)
  (F:∀(w:World) (mg:Str->Option Value) (fa:Addr) (h:Heap),YP w h->(K w.params).In h->h.Ns mainGlobals mg->mg d.name=some (.ref fa) →
   ∃fd:FuncData,(∀(s:Shared) (us:List Value),us.length=ps.length->BindsTo s fd ⟨us,[]⟩ (ps.zip us)) ∧
    ∀base:Heap,(K w.params).In base->base.Ns mainGlobals mg->dh r.prog w (K w.params) mg base (CX w) k fa fd ps (sp w))
  (hsp:∀(w:World) (H:Hp) (xs:List V) (a:Codec.denoteAll r.args),A0 H->Codec.withinAll r.args a=true->Codec.app r.args r.asked a=true->jZ (K w.params) H xs (Codec.encAll r.args a) →
   sp w xs H (fun v H'=>Dw (K w.params) H' v (r.ret.enc (Codec.app r.args r.f a))) fun _ _ _=>False)
  (hCX:∀(w:World) (H:Hp) (s:Shared) (e:Value) (s':Shared),CX w [] H s (fun _ _ _=>False) e s'->False) :
  PySem.W.WalkOS q loose XP YP r d [] (fun f vs=>PySem.call f vs):=by
 intro w s_0 s₁ mg mb G Y fa o pm cd doc dV kV ho hd hcd hD hmg hg args vals as hpre hlay hrd hwl hlo;obtain⟨a,e1,e2⟩:=PySem.W.os_pre_some hpre;obtain⟨e3,hwi⟩:=Codec.encAll_of_decAll r.args args a e1;subst e3;have KX:=hY w _ Y;obtain⟨fd,hb,hF⟩:=F w mg fa _ Y KX G.T.g hmg
 refine PySem.W.enter_call (codeAny_mono (BW (R:=[]) (cl:=classAt s_0.heap) (d0:=r.ret.enc (Codec.app r.args r.f a)) KX G.T.g G.T.b G.T.builtins G.T.nolimit hg hwl (tI _ _) (qN hlay) hr hF hb (by rw[qZ];exact hlen)
  (fun H xs hO hS=>hsp w H xs a hO hwi e2 hS) fun H e s'=>hCX w H s₁ e s') fun r' s' hq=>?_)
 obtain⟨u,as',rfl,h1,h2,h3,h4⟩:=hq;exact⟨.inl ⟨u,_,as',rfl,fun _=>rfl,h1,(OpenSpec.post_iff hwell hwi _ _).mpr rfl,fun z=>Bool.noConfusion (show false=true from z)⟩,h2,h3,h4⟩
end L2
namespace Can
open PySem PySem.Spec PyProof.Rows L2 XL
open PySem.W (Codec)
variable{P:Program}{w:World}{K:Frag}{mg:Str->Option Value}{base:Heap}{C CG CF CT CR CY:Addr}
section
variable{K:Frag}{h:Heap}{mg:Str->Option Value}
theorem Fp{x:Str}{st:Stmt}{f:Addr}{oc:Value}{od an:Option Addr}{osl:Array (Option Value)}{kV doc pm cdv ct:Value}(X:K.In h)(G:h.Ns mainGlobals mg)(a:nsIn K mainGlobals x=some (some (.ref f)))
  (l:K.lookup f=some ⟨oc,od,.func (fnOf x x (dN st) (cq st) (ao st) .none kV doc pm an cdv ct),osl⟩)(c:codeIn K cdv x=true)(k:keepIn K (.ref f)=true):aK K mg x st :=
 ⟨f,_,qS l c k,mg_of X G a⟩
theorem FT{m qual:Str}{st:Stmt}{CC f:Addr}{oc:Value}{od an:Option Addr}{osl:Array (Option Value)}{kV doc pm cdv ct:Value}(a:findIn K (.ref CC) m=some (some (.ref f)))(i:isFn K (.ref f)=true)
  (l:K.lookup f=some ⟨oc,od,.func (fnOf m qual (dN st) (cq st) (ao st) .none kV doc pm an cdv ct),osl⟩)(c:codeIn K cdv qual=true)(k:keepIn K (.ref f)=true):i6 K CC m qual st :=
 ⟨f,_,qS l c k,⟨a,i,k⟩⟩
theorem pJ{x qual:Str}{st:Stmt}{CC f:Addr}{oc:Value}{od an:Option Addr}{osl:Array (Option Value)}{kV doc pm cdv ct:Value}(X:K.In h)(G:h.Ns mainGlobals mg)(aC:nsIn K mainGlobals x=some (some (.ref CC)))
  (a:findIn K (.ref CC) "__init__"=some (some (.ref f)))(i:isFn K (.ref f)=true)
  (l:K.lookup f=some ⟨oc,od,.func (fnOf "__init__" qual (dN st) (cq st) (ao st) .none kV doc pm an cdv ct),osl⟩)(c:codeIn K cdv qual=true)(k:keepIn K (.ref f)=true)
  (mk:makesIn K CC=true)(kc:keepIn K (.ref CC)=true):BI K mg x qual st CC :=
 ⟨f,_,⟨mk,a,i,kc⟩,qS l c k,mg_of X G aC⟩
theorem Dl{CC f Td:Addr}{oc:Value}{od an:Option Addr}{osl sT:Array (Option Value)}{kV doc pm cdv ct cT:Value}{dT:Option Addr}{n:Nat}(X:K.In h)(G:h.Ns mainGlobals mg)(aC:nsIn K mainGlobals "Formula"=some (some (.ref CC)))
  (a:findIn K (.ref CC) "__init__"=some (some (.ref f)))(i:isFn K (.ref f)=true)
  (l:K.lookup f=some ⟨oc,od,.func (fnOf "__init__" "Formula.__init__" (dN bR) (cq bR) (ao bR) (.ref Td) kV doc pm an cdv ct),osl⟩)(c:codeIn K cdv "Formula.__init__"=true)
  (lT:K.lookup Td=some ⟨cT,dT,.seq #[.none] n,sT⟩)(mk:makesIn K CC=true)(kc:keepIn K (.ref CC)=true):∃f fd,Mk K CC f∧B8 K "__init__" "Formula.__init__" bR f fd #[.none]∧mg "Formula"=some (.ref CC) :=
 ⟨f,_,⟨mk,a,i,kc⟩,⟨oc,od,kV,doc,pm,an,cdv,ct,osl,Td,_,n,rfl,l,c,lT,rfl⟩,mg_of X G aC⟩
theorem eS{a:Addr}{od:Option Addr}{its:Array Value}{n:Nat}{sl:Array (Option Value)}{xs:List V}(l:K.lookup a=some ⟨.type "tuple",od,.seq its n,sl⟩)(hs:its.size≤sizeLine)(hv:b8 xs its.toList):∀H,eB K H a xs :=
 fun _=>.inr ⟨_,its,n,l,rfl,rfl,hs,hv⟩
theorem mY{x:Str}{a:Addr}{od:Option Addr}{its:Array Value}{n:Nat}{sl:Array (Option Value)}{xs:List V}(X:K.In h)(G:h.Ns mainGlobals mg)(e:nsIn K mainGlobals x=some (some (.ref a)))(l:K.lookup a=some ⟨.type "tuple",od,.seq its n,sl⟩)(hs:its.size≤sizeLine)(hv:b8 xs its.toList) :
  ∃a,mg x=some (.ref a)∧∀H,eB K H a xs:=⟨a,mg_of X G e,eS l hs hv⟩
theorem hX{x:Str}{i:Int}{t:Tok}(X:K.In h)(G:h.Ns mainGlobals mg)(e:nsIn K mainGlobals x=some (some (.int i t))):∃t,mg x=some (.int i t):=⟨t,mg_of X G e⟩
theorem zf{x y:Str}{t:Tok}(X:K.In h)(G:h.Ns mainGlobals mg)(e:nsIn K mainGlobals x=some (some (.str y t))):∃t,mg x=some (.str y t):=⟨t,mg_of X G e⟩
theorem GW(X:K.In h)(G:h.Ns mainGlobals mg)(z0:nsIn K mainGlobals "zip"=some none)(z1:nsIn K mainGlobals "enumerate"=some none)(z2:nsIn K mainGlobals "any"=some none)(z3:nsIn K mainGlobals "all"=some none)(z4:nsIn K mainGlobals "len"=some none)(z5:nsIn K mainGlobals "range"=some none)(z6:nsIn K mainGlobals "sorted"=some none)(z7:nsIn K mainGlobals "sum"=some none)(z8:nsIn K mainGlobals "dict"=some none)(z9:nsIn K mainGlobals "ord"=some none)(z10:nsIn K mainGlobals "int"=some none)(z11:nsIn K mainGlobals "min"=some none)(z12:nsIn K mainGlobals "set"=some none)(z13:nsIn K mainGlobals "tuple"=some none)(z14:nsIn K mainGlobals "list"=some none)(z15:nsIn K mainGlobals "str"=some none)(z16:nsIn K mainGlobals "reversed"=some none):j3 mg :=
 ⟨mg_none_of X G z0,mg_none_of X G z1,mg_none_of X G z2,mg_none_of X G z3,mg_none_of X G z4,mg_none_of X G z5,mg_none_of X G z6,mg_none_of X G z7,mg_none_of X G z8,mg_none_of X G z9,mg_none_of X G z10,mg_none_of X G z11,mg_none_of X G z12,mg_none_of X G z13,mg_none_of X G z14,mg_none_of X G z15,mg_none_of X G z16⟩
def lk{κ:Type}(p:κ->Value->Bool)(es:Array DictEntry)(k:κ):Option Value:=(es.toList.find? fun e=>p k e.key).map (·.val)
theorem aW{κ:Type}{p:κ->Value->Bool}{es:Array DictEntry}{k:κ}{r:Option Value}(e:lk p es k=r):findBy p es k=r:=by
 rw[←e];unfold findBy lk;rw[Array.find?_toList]
theorem F7{es:Array DictEntry}{t0 t1 t2 t3:Tok}(h0:lk Value.isStrOf es (fQ 0)=some (.int 1 t0))(h1:lk Value.isStrOf es (fQ 1)=some (.int 2 t1))(h2:lk Value.isStrOf es (fQ 2)=some (.int 4 t2))(h3:lk Value.isStrOf es (fQ 3)=some (.int 8 t3))
  (n0:lk Value.isStrOf es "true"=none)(n1:lk Value.isStrOf es "not"=none)(n2:lk Value.isStrOf es "EX"=none)(n3:lk Value.isStrOf es "EG"=none)(n4:lk Value.isStrOf es "and"=none)(n5:lk Value.isStrOf es "or"=none)(n6:lk Value.isStrOf es "EU"=none):Fj es:=by
 refine⟨fun i hi=>?_,fun k hk=>?_⟩
 ·match i,hi with
  | 0,_=>exact⟨t0,aW h0⟩
  | 1,_=>exact⟨t1,aW h1⟩
  | 2,_=>exact⟨t2,aW h2⟩
  | 3,_=>exact⟨t3,aW h3⟩
 ·simp only[List.mem_cons,LJ,or_false] at hk;rcases hk with rfl | rfl | rfl | rfl | rfl | rfl | rfl
  ·exact aW n0
  ·exact aW n1
  ·exact aW n2
  ·exact aW n3
  ·exact aW n4
  ·exact aW n5
  ·exact aW n6
theorem GN{es:Array DictEntry}{t0 t1:Tok}(h0:lk Value.isStrOf es "marks"=some (.int 15 t0))(h1:lk Value.isStrOf es "node"=some (.int 11 t1)):JR es:=⟨⟨t0,aW h0⟩,⟨t1,aW h1⟩⟩
theorem IM{es:Array DictEntry}{f0 f1 f2 f3 f4 f5 f6:Addr}(X:K.In h)(G:h.Ns mainGlobals mg)(h0:lk Value.isStrOf es "not"=some (.ref f0))(h1:lk Value.isStrOf es "EX"=some (.ref f1))(h2:lk Value.isStrOf es "AX"=some (.ref f2))(h3:lk Value.isStrOf es "EF"=some (.ref f3))(h4:lk Value.isStrOf es "AF"=some (.ref f4))(h5:lk Value.isStrOf es "EG"=some (.ref f5))(h6:lk Value.isStrOf es "AG"=some (.ref f6))
  (a0:nsIn K mainGlobals "negated"=some (some (.ref f0)))(a1:nsIn K mainGlobals "some_next"=some (some (.ref f1)))(a2:nsIn K mainGlobals "every_next"=some (some (.ref f2)))(a3:nsIn K mainGlobals "some_time"=some (some (.ref f3)))(a4:nsIn K mainGlobals "every_way_some_time"=some (some (.ref f4)))(a5:nsIn K mainGlobals "some_way_always"=some (some (.ref f5)))(a6:nsIn K mainGlobals "every_way_always"=some (some (.ref f6))) :
  ∀CF wd mk g,B4 CF wd mk g->∃f,findBy Value.isStrOf es wd=some (.ref f)∧mg g=some (.ref f):=fun CF wd mk g p=>by
 cases p with
 | not=>exact⟨f0,aW h0,mg_of X G a0⟩
 | ex=>exact⟨f1,aW h1,mg_of X G a1⟩
 | ax=>exact⟨f2,aW h2,mg_of X G a2⟩
 | ef=>exact⟨f3,aW h3,mg_of X G a3⟩
 | af=>exact⟨f4,aW h4,mg_of X G a4⟩
 | eg=>exact⟨f5,aW h5,mg_of X G a5⟩
 | ag=>exact⟨f6,aW h6,mg_of X G a6⟩
theorem wc{w:World}{x:Str}{d:Addr}{es:Array DictEntry}{n:Nat}(X:K.In h)(G:h.Ns mainGlobals mg)(a:nsIn K mainGlobals x=some (some (.ref d)))(l:K.lookup d=some ⟨.type "dict",none,.dict es n,#[]⟩)(kl:PySem.W.KeysLit w.params es.toList)(lo:(d==sysModules)=false):lr K mg w x d es :=
 ⟨mg_of X G a,⟨n,l⟩,kl,lo⟩
theorem CK{x:Str}{d:Addr}{es:Array DictEntry}{n:Nat}(X:K.In h)(G:h.Ns mainGlobals mg)(a:nsIn K mainGlobals x=some (some (.ref d)))(l:K.lookup d=some ⟨.type "dict",none,.dict es n,#[]⟩)(kl:kn es.toList)(lo:(d==sysModules)=false):ql K mg x d es :=
 ⟨mg_of X G a,⟨n,l⟩,kl,lo⟩
theorem DI{es:Array DictEntry}{u0 u1 u2 u3 u4 u5 u6 u7 u8 u9 u10 u11:Addr}(h0:lk Value.isInt es 0=some (.ref u0))(t0:∀H,eB K H u0 [.str "marks"])(h1:lk Value.isInt es 1=some (.ref u1))(t1:∀H,eB K H u1 [.str "node",.str "node"])(h2:lk Value.isInt es 2=some (.ref u2))(t2:∀H,eB K H u2 [.str "node",.str "node"])(h3:lk Value.isInt es 3=some (.ref u3))(t3:∀H,eB K H u3 [.str "node",.str "marks"])(h4:lk Value.isInt es 4=some (.ref u4))(t4:∀H,eB K H u4 [.str "node"])(h5:lk Value.isInt es 5=some (.ref u5))(t5:∀H,eB K H u5 [.str "text"])(h6:lk Value.isInt es 6=some (.ref u6))(t6:∀H,eB K H u6 [.str "node",.str "text"])(h7:lk Value.isInt es 7=some (.ref u7))(t7:∀H,eB K H u7 [.str "text"])(h8:lk Value.isInt es 8=some (.ref u8))(t8:∀H,eB K H u8 [])(h9:lk Value.isInt es 9=some (.ref u9))(t9:∀H,eB K H u9 [.str "node",.str "node"])(h10:lk Value.isInt es 10=some (.ref u10))(t10:∀H,eB K H u10 [])(h11:lk Value.isInt es 11=some (.ref u11))(t11:∀H,eB K H u11 [.str "text",.str "text"]):v7 K es:=⟨fun c=>by
 cases c with
 | node _=>exact⟨u0,aW h0,t0⟩
 | edge _ _=>exact⟨u1,aW h1,t1⟩
 | cut _ _=>exact⟨u2,aW h2,t2⟩
 | marks _ _=>exact⟨u3,aW h3,t3⟩
 | told _=>exact⟨u4,aW h4,t4⟩
 | holds _=>exact⟨u5,aW h5,t5⟩
 | shows _ _=>exact⟨u6,aW h6,t6⟩
 | form _=>exact⟨u7,aW h7,t7⟩
 | classes=>exact⟨u8,aW h8,t8⟩
 | apart _ _=>exact⟨u9,aW h9,t9⟩
 | quotient=>exact⟨u10,aW h10,t10⟩
 | same _ _=>exact⟨u11,aW h11,t11⟩⟩
def pY:List DictEntry->Prop
 | []=>True
 | e::r=>(∃x t,e.key=.str x t)∧pY r
theorem pY.all:∀{l:List DictEntry},pY l->∀e∈l,∃x t,e.key=.str x t:=by
 intro l
 induction l with
 | nil=>intro _ e he;exact absurd he LJ
 | cons a r ih =>
  intro h e he;rcases List.mem_cons.mp he with q | q
  ·rw[q];exact h.1
  ·exact ih h.2 e q
theorem IE{C N fI:Addr}{nm q:Str}{bs:List Value}{sn:List Str}{sub:List Value}{ab:Bool}{col:Option Bool}{dd od dI an:Option Addr}{k0 k1 k2 k3 k5:Option Value}{oc kV doc pm cdv ct:Value}{es:Array DictEntry}{n:Nat}{sl sI:Array (Option Value)}
  (X:K.In h)(G:h.Ns mainGlobals mg)(aC:nsIn K mainGlobals "WrongWord"=some (some (.ref C)))(a:findIn K (.ref C) "__init__"=some (some (.ref fI)))
  (lc:K.lookup C=some (excClassObj nm q C N bs vv true sn sub ab col dd k0 k1 k2 k3 k5 "Exception.__new__"))(lN:K.lookup N=some ⟨oc,od,.dict es n,sl⟩)(sk:pY es.toList)
  (e0:lk (fun n (v:Value)=>v.isStr n) es "__init__"=some (.ref fI))(e1:lk (fun n (v:Value)=>v.isStr n) es "__setattr__"=none)(e2:lk (fun n (v:Value)=>v.isStr n) es "__getattribute__"=none)(e3:lk (fun n (v:Value)=>v.isStr n) es "__getattr__"=none)(e4:lk (fun n (v:Value)=>v.isStr n) es "place"=none)
  (l:K.lookup fI=some ⟨.type "function",dI,.func (fnOf "__init__" "WrongWord.__init__" (dN bK) (cq bK) (ao bK) .none kV doc pm an cdv ct),sI⟩)(c:codeIn K cdv "WrongWord.__init__"=true)(k:keepIn K (.ref fI)=true)
  (kp:keepIn K (.ref C)=true)(no:typeLookup (.type "Exception") "place"=pure none):∃N fI fd,XC K C N fI "place"∧yd K "__init__" "WrongWord.__init__" bK fI fd∧mg "WrongWord"=some (.ref C) :=
 ⟨N,fI,_,⟨⟨nm,q,bs,sn,sub,ab,col,dd,k0,k1,k2,k3,k5,lc⟩,⟨oc,od,es,n,sl,lN,fun e he=>sk.all e (Array.mem_toList_iff.mpr he),aW e0,aW e1,aW e2,aW e3,aW e4⟩,⟨_,l,rfl⟩,kp,no⟩,qS l c k,mg_of X G aC⟩
theorem JP{C:Addr}{P:Program}{w:World}{H:Hp}{s s':Shared}{e:Value}(h:ic P w C [] H s (fun _ _ _=>False) e s'):False:=by
 obtain⟨x,dx,T,H',_,_,_,_,_,_,_,_,_,_,_,_,hE⟩:=h;exact hE
end
abbrev lW:=PySem.Challenge.rw_cancome_s01_answers
theorem Dz{q:Program}{loose:List Str}{XP:(Str->Option Value)->Heap->Prop}{YP:World->Heap->Prop}{d:DefRec}{K:Params->Frag}{C:Addr}(hwell:lW.wellSaid=true)(hdf:d.params.defaults=[])(hY:∀(w:World) (h:Heap),YP w h->(K w.params).In h)
  (F:∀(w:World) (mg:Str->Option Value) (fa:Addr) (h:Heap),YP w h->(K w.params).In h->h.Ns mainGlobals mg->mg d.name=some (.ref fa) →
   ∃fd:FuncData,(∀(s:Shared) (us:List Value),us.length=(["calls"]:List Str).length->BindsTo s fd ⟨us,[]⟩ ((["calls"]:List Str).zip us)) ∧
    ∀base:Heap,(K w.params).In base->base.Ns mainGlobals mg->dh lW.prog w (K w.params) mg base (ic lW.prog w C) 93 fa fd ["calls"] (tU (K w.params))) :
  PySem.W.WalkOS q loose XP YP lW d [] (fun f vs=>PySem.call f vs):=by
 refine C3 (r:=lW) (k:=93) (K:=K) (CX:=fun w=>ic lW.prog w C) (ps:=["calls"]) (sp:=fun w=>tU (K w.params)) hwell hdf rfl ⟨rfl,by decide,by decide⟩ hY F ?_ (fun w H s e s' z=>JP z)
 intro w H xs a hO hwi hask hx;cases hx with
 | cons h1 h2 =>
  cases h2;cases h1 with
  | lst hs ha =>
   have e:=Ai a.1 _ ha;subst e;have q:((Codec.inLen 0 16000 a.1&&a.1.all (Codec.inInt (-9223372036854775808) 9223372036854775807))&&true)=true:=hwi;rw[L7,L7] at q;obtain⟨ks,e,h400,hans⟩:=zd (l:=a.1) hask;refine⟨_,ks,rfl,by rw[←e];exact hs,by rw[←e];exact(Codec.inNat_iff.mp q.1.1).2,h400,fun H' p hp=>?_⟩
   show Dw _ _ _ (lW.ret.enc (PyVbavai.answers a.1));rw[hans];exact .lst (aH.of hp) (AR _)
theorem Ht{P:Program}{w:World}{K:Frag}{h:Heap}{mg:Str->Option Value}{fa f C CF CR CG CT CY:Addr}{oc:Value}{od an:Option Addr}{osl:Array (Option Value)}{kV doc pm cdv ct:Value}(X:K.In h)(G:h.Ns mainGlobals mg)(hfa:mg "answers"=some (.ref fa))
  (a:nsIn K mainGlobals "answers"=some (some (.ref f)))(l:K.lookup f=some ⟨oc,od,.func (fnOf "answers" "answers" (dN fc) (cq fc) (ao fc) .none kV doc pm an cdv ct),osl⟩)(c:codeIn K cdv "answers"=true)(k:keepIn K (.ref f)=true)
  (TF:IC K mg)(TC:J4 K mg C CF CR CG CT CY)(TM:J0 K CR CG CT)(TN:IH K mg w) :
  ∃fd:FuncData,(∀(s:Shared)(us:List Value),us.length=(["calls"]:List Str).length->BindsTo s fd ⟨us,[]⟩ ((["calls"]:List Str).zip us))∧∀base:Heap,K.In base->base.Ns mainGlobals mg->dh P w K mg base (ic P w C) 93 fa fd ["calls"] (tU K):=by
 have e:=hfa.symm.trans (mg_of X G a);cases e;have F:=qS (st:=fc) l c k;exact⟨_,fun s us hu=>match us,hu with | [_],_=>.of_eq rfl,fun base _ _=>HI F TF TM TC TN⟩
end Can
namespace PySem.W.Fast
def tw103572236422824752:=0
def tw1043835182724093976:=0
def tw10790139846848689820:=0
def tw11528119943802440084:=0
def tw11678699269149755340:=0
def tw11871846119100532065:=0
def tw12300539466203179241:=0
def tw1312895170952598288:=0
def tw13351830064573614348:=0
def tw13400340591866273607:=0
def tw13679997556798936450:=0
def tw13697009288502986098:=0
def tw13809923937591608353:=0
def tw15074820439963446454:=0
def tw16310791478728226122:=0
def tw17199261452005788385:=0
def tw1740871573539994910:=0
def tw18232315472966267571:=0
def tw18405433643544352676:=0
def tw2368197995781753782:=0
def tw5320387726490675186:=0
def tw56862728206516701:=0
def tw701064669620761342:=0
def tw7680598198006962133:=0
def tw7999086203200860922:=0
def tw8057924285563112775:=0
def tw8191605180699029777:=0
def tw8835579726750810950:=0
def tw9331569846759414126:=0
def tw9832846064728129665:=0
def tw7052962984603897493:=0
def tw960761667161708181:=0
def tw8758161467582209807:=0
def tw12061530695745758737:=0
def tw14088755072607434726:=0
def tw3619532368216112525:=0
def tw8594641126699246599:=0
def tw10575481265685489798:=0
def tw13377512812679301110:=0
def tw13559847515894976265:=0
def tw8978206862241146617:=0
def tw17087418036588241980:=0
def tw13914717807082255560:=0
def tw11161482493661538083:=0
def tw6983595699902737433:=0
def tw2124384405374369485:=0
def tw4649402180761974813:=0
def tw14691446080780137591:=0
def tw7924049139385316615:=0
def tw6984431048665082063:=0
def tw3724634337756887629:=0
def tw9515237650263378154:=0
def tw9210694561599755066:=0
def tw9654416138043558361:=0
def tw6735764416062005101:=0
def tw4665807856944962910:=0
def tw11958610940027001810:=0
def tw1202526334339822311:=0
def tw1280313132840592991:=0
def tw17760387866907273151:=0
def tw2217592602147341496:=0
def tw293125075737745376:=0
def tw3329001099310187600:=0
def tw10691723125122324907:=0
def tw2460760340642151927:=0
def tw3130495271748660715:=0
def tw11068051000845009384:=0
def tw17300554504330144668:=0
def tw10256836181801468948:=0
def tw897001794617410217:=0
def tw11104692590840696714:=0
def tw2766738467019697886:=0
def tw3842400537183603736:=0
def tw11839941104888273155:=0
def tw7181515530470185569:=0
def tw1670099074598670498:=0
def tw8787381694879065868:=0
def tw1259803315798110235:=0
def tw1746021725004900716:=0
def tw7160317199043742200:=0
def tw15763806436638800430:=0
def tw12991652700177817685:=0
def tw8913094812774240606:=0
def tw14655893400257259948:=0
def tw16971889994768983509:=0
def tw8370871824170667500:=0
def tw17941130236600457547:=0
def tw6026854946818840088:=0
def tw4885643545670887684:=0
def tw6152823974977323902:=0
def tw10757837760655709675:=0
def tw12044353040144797360:=0
def tw16008611064556313710:=0
def tw925953334271858268:=0
def tw10095759414441460913:=0
def tw11785695006622335657:=0
def tw7495127913451766120:=0
def tw13226525255920275431:=0
def tw822940597718410625:=0
def tw12802793227185217006:=0
end PySem.W.Fast
open PySem PySem.W PyProof.Rows
set_option maxRecDepth 100000 in
set_option maxHeartbeats 0 in
theorem PySem.Challenge.cw_cancome_s01_answers_holds : PySem.Challenge.rw_cancome_s01_answers.Holds := by
 w_on;k_headS;(case hw=>exact⟨[.list [.int 8]],by decide +kernel,by decide +kernel⟩)
 k_fillS
 refine' Can.Dz (C:=?C) ?hw ?hd (fun w h Y=>PySem.W.kIn_of Y) ?F
 (case hw=>decide +kernel)
 (case hd=>rfl)
 case F =>
  intro w mg fa h Y KX G hmg;refine' Can.Ht KX G hmg ?a ?l ?c ?k ?TF ?TC ?TM ?TN
  (case a=>k_is);(case l=>k_is);(case c=>k_is);(case k=>k_is)
  case TF =>
   constructor
   all_goals (refine' Can.Fp KX G ?a ?l ?c ?k;(case a=>k_is);(case l=>k_is);(case c=>k_is);(case k=>k_is))
  case TC =>
   refine' ⟨?tF,?tR,?tG,?tT,?tY,?mkF,?mkR,?mkG,?mkT,?mkY,?xw⟩
   (case mkF=>(refine' Can.Dl KX G ?aC ?a ?i ?l ?c ?lT ?mk ?kc;(case aC=>k_is);(case a=>k_is);(case i=>k_is);(case l=>k_is);(case c=>k_is);(case lT=>k_is);(case mk=>k_is);(case kc=>k_is)))
   (case mkR=>(refine' Can.pJ KX G ?aC ?a ?i ?l ?c ?k ?mk ?kc;(case aC=>k_is);(case a=>k_is);(case i=>k_is);(case l=>k_is);(case c=>k_is);(case k=>k_is);(case mk=>k_is);(case kc=>k_is)))
   (case mkG=>(refine' Can.pJ KX G ?aC ?a ?i ?l ?c ?k ?mk ?kc;(case aC=>k_is);(case a=>k_is);(case i=>k_is);(case l=>k_is);(case c=>k_is);(case k=>k_is);(case mk=>k_is);(case kc=>k_is)))
   (case mkT=>(refine' Can.pJ KX G ?aC ?a ?i ?l ?c ?k ?mk ?kc;(case aC=>k_is);(case a=>k_is);(case i=>k_is);(case l=>k_is);(case c=>k_is);(case k=>k_is);(case mk=>k_is);(case kc=>k_is)))
   (case mkY=>(refine' Can.pJ KX G ?aC ?a ?i ?l ?c ?k ?mk ?kc;(case aC=>k_is);(case a=>k_is);(case i=>k_is);(case l=>k_is);(case c=>k_is);(case k=>k_is);(case mk=>k_is);(case kc=>k_is)))
   (case tF=>(refine' ⟨⟨?_,?_,?_,?_⟩,?_,?_,?_,?_⟩<;>(first | k_is | (show findIn _ _ _=_;k_is))))
   (case tR=>(refine' ⟨⟨?_,?_,?_,?_⟩,?_,?_⟩<;>(first | k_is | (show findIn _ _ _=_;k_is))))
   (case tG=>(refine' ⟨⟨?_,?_,?_,?_⟩,?_,?_⟩<;>(first | k_is | (show findIn _ _ _=_;k_is))))
   (case tT=>(refine' ⟨⟨?_,?_,?_,?_⟩,?_,?_,?_⟩<;>(first | k_is | (show findIn _ _ _=_;k_is))))
   (case tY=>(refine' ⟨⟨?_,?_,?_,?_⟩,?_,?_⟩<;>(first | k_is | (show findIn _ _ _=_;k_is))))
   case xw =>
    refine' Can.IE KX G ?aC ?a ?lc ?lN ?sk ?e0 ?e1 ?e2 ?e3 ?e4 ?l ?c ?k ?kp ?no
    (case aC=>k_is);(case a=>k_is);(case lc=>k_is);(case lN=>k_is);(case l=>k_is);(case c=>k_is);(case k=>k_is);(case kp=>k_is)
    (case sk=>repeat (first | exact trivial | refine⟨⟨_,_,rfl⟩,?_⟩))
    (case e0=>rfl);(case e1=>rfl);(case e2=>rfl);(case e3=>rfl);(case e4=>rfl)
    (case no=>rfl)
  case TM =>
   constructor
   all_goals (refine' Can.FT ?a ?i ?l ?c ?k;(case a=>k_is);(case i=>k_is);(case l=>k_is);(case c=>k_is);(case k=>k_is))
  case TN =>
   refine' ⟨?blt,⟨?n1,?n2⟩,⟨?s1,?g1,?g2,?g3,?n3,?n4⟩,?n5,?n6,?s2,?s3,?n7,?n8,?n9,?n10,?g4,?g5,?mv,?gr,?fo,?bl⟩
   (case blt=>(refine' Can.GW KX G ?_ ?_ ?_ ?_ ?_ ?_ ?_ ?_ ?_ ?_ ?_ ?_ ?_ ?_ ?_ ?_ ?_<;>k_is))
   (case n1=>(refine' Can.hX KX G ?e;(case e=>k_is)))
   (case n2=>(refine' Can.hX KX G ?e;(case e=>k_is)))
   (case n3=>(refine' Can.hX KX G ?e;(case e=>k_is)))
   (case n4=>(refine' Can.hX KX G ?e;(case e=>k_is)))
   (case n5=>(refine' Can.hX KX G ?e;(case e=>k_is)))
   (case n6=>(refine' Can.hX KX G ?e;(case e=>k_is)))
   (case n7=>(refine' Can.hX KX G ?e;(case e=>k_is)))
   (case n8=>(refine' Can.hX KX G ?e;(case e=>k_is)))
   (case n9=>(refine' Can.hX KX G ?e;(case e=>k_is)))
   (case n10=>(refine' Can.hX KX G ?e;(case e=>k_is)))
   (case s1=>(refine' Can.zf KX G ?e;(case e=>k_is)))
   (case s2=>(refine' Can.zf KX G ?e;(case e=>k_is)))
   (case s3=>(refine' Can.zf KX G ?e;(case e=>k_is)))
   (case g1=>(refine' Can.mY KX G ?e ?l ?s ?v;(case e=>k_is);(case l=>k_is);(case s=>decide);(case v=>exact(.cons ⟨_,rfl⟩ (.cons ⟨_,rfl⟩ (.cons ⟨_,rfl⟩ (.cons ⟨_,rfl⟩ (.cons ⟨_,rfl⟩ .nil))))))))
   (case g2=>(refine' Can.mY KX G ?e ?l ?s ?v;(case e=>k_is);(case l=>k_is);(case s=>decide);(case v=>exact(.cons ⟨_,rfl⟩ (.cons ⟨_,rfl⟩ (.cons ⟨_,rfl⟩ (.cons ⟨_,rfl⟩ (.cons ⟨_,rfl⟩ (.cons ⟨_,rfl⟩ (.cons ⟨_,rfl⟩ .nil))))))))))
   (case g3=>(refine' Can.mY KX G ?e ?l ?s ?v;(case e=>k_is);(case l=>k_is);(case s=>decide);(case v=>exact(.cons ⟨_,rfl⟩ (.cons ⟨_,rfl⟩ (.cons ⟨_,rfl⟩ (.cons ⟨_,rfl⟩ .nil)))))))
   (case g4=>(refine' Can.mY KX G ?e ?l ?s ?v;(case e=>k_is);(case l=>k_is);(case s=>decide);(case v=>exact(.cons ⟨_,rfl⟩ (.cons ⟨_,rfl⟩ (.cons ⟨_,rfl⟩ (.cons ⟨_,rfl⟩ .nil)))))))
   (case g5=>(refine' Can.mY KX G ?e ?l ?s ?v;(case e=>k_is);(case l=>k_is);(case s=>decide);(case v=>exact(.cons ⟨_,rfl⟩ (.cons ⟨_,rfl⟩ (.cons ⟨_,rfl⟩ (.cons ⟨_,rfl⟩ (.cons ⟨_,rfl⟩ (.cons ⟨_,rfl⟩ .nil)))))))))
   case mv =>
    refine' ⟨_,_,Can.wc KX G ?a ?l ?kl ?lo,Can.F7 ?h0 ?h1 ?h2 ?h3 ?h4 ?h5 ?h6 ?h7 ?h8 ?h9 ?h10⟩
    (case a=>k_is);(case l=>k_is);(case kl=>exact⟨⟨_,_,rfl,rfl⟩,⟨_,_,rfl,rfl⟩,⟨_,_,rfl,rfl⟩,⟨_,_,rfl,rfl⟩,trivial⟩);(case lo=>rfl)
    (case h0=>rfl);(case h1=>rfl);(case h2=>rfl);(case h3=>rfl);(case h4=>rfl);(case h5=>rfl);(case h6=>rfl);(case h7=>rfl);(case h8=>rfl);(case h9=>rfl);(case h10=>rfl)
   case gr =>
    refine' ⟨_,_,Can.wc KX G ?a ?l ?kl ?lo,Can.GN ?h0 ?h1⟩
    (case a=>k_is);(case l=>k_is);(case kl=>exact⟨⟨_,_,rfl,rfl⟩,⟨_,_,rfl,rfl⟩,trivial⟩);(case lo=>rfl)
    (case h0=>rfl);(case h1=>rfl)
   case bl =>
    refine' ⟨_,_,Can.wc KX G ?a ?l ?kl ?lo,Can.IM KX G ?h0 ?h1 ?h2 ?h3 ?h4 ?h5 ?h6 ?a0 ?a1 ?a2 ?a3 ?a4 ?a5 ?a6⟩
    (case a=>k_is);(case l=>k_is);(case kl=>exact⟨⟨_,_,rfl,rfl⟩,⟨_,_,rfl,rfl⟩,⟨_,_,rfl,rfl⟩,⟨_,_,rfl,rfl⟩,⟨_,_,rfl,rfl⟩,⟨_,_,rfl,rfl⟩,⟨_,_,rfl,rfl⟩,trivial⟩);(case lo=>rfl)
    (case a0=>k_is);(case a1=>k_is);(case a2=>k_is);(case a3=>k_is);(case a4=>k_is);(case a5=>k_is);(case a6=>k_is)
    (case h0=>rfl);(case h1=>rfl);(case h2=>rfl);(case h3=>rfl);(case h4=>rfl);(case h5=>rfl);(case h6=>rfl)
   case fo =>
    refine' ⟨_,_,Can.CK KX G ?a ?l ?kl ?lo,Can.DI ?h0 ?t0 ?h1 ?t1 ?h2 ?t2 ?h3 ?t3 ?h4 ?t4 ?h5 ?t5 ?h6 ?t6 ?h7 ?t7 ?h8 ?t8 ?h9 ?t9 ?h10 ?t10 ?h11 ?t11⟩
    (case a=>k_is);(case l=>k_is);(case kl=>exact⟨⟨_,_,rfl,rfl⟩,⟨_,_,rfl,rfl⟩,⟨_,_,rfl,rfl⟩,⟨_,_,rfl,rfl⟩,⟨_,_,rfl,rfl⟩,⟨_,_,rfl,rfl⟩,⟨_,_,rfl,rfl⟩,⟨_,_,rfl,rfl⟩,⟨_,_,rfl,rfl⟩,⟨_,_,rfl,rfl⟩,⟨_,_,rfl,rfl⟩,⟨_,_,rfl,rfl⟩,trivial⟩);(case lo=>rfl)
    (case h0=>rfl);(case t0=>(refine' Can.eS ?l ?s ?v;(case l=>k_is);(case s=>decide);(case v=>exact(.cons ⟨_,rfl⟩ .nil))))
    (case h1=>rfl);(case t1=>(refine' Can.eS ?l ?s ?v;(case l=>k_is);(case s=>decide);(case v=>exact(.cons ⟨_,rfl⟩ (.cons ⟨_,rfl⟩ .nil)))))
    (case h2=>rfl);(case t2=>(refine' Can.eS ?l ?s ?v;(case l=>k_is);(case s=>decide);(case v=>exact(.cons ⟨_,rfl⟩ (.cons ⟨_,rfl⟩ .nil)))))
    (case h3=>rfl);(case t3=>(refine' Can.eS ?l ?s ?v;(case l=>k_is);(case s=>decide);(case v=>exact(.cons ⟨_,rfl⟩ (.cons ⟨_,rfl⟩ .nil)))))
    (case h4=>rfl);(case t4=>(refine' Can.eS ?l ?s ?v;(case l=>k_is);(case s=>decide);(case v=>exact(.cons ⟨_,rfl⟩ .nil))))
    (case h5=>rfl);(case t5=>(refine' Can.eS ?l ?s ?v;(case l=>k_is);(case s=>decide);(case v=>exact(.cons ⟨_,rfl⟩ .nil))))
    (case h6=>rfl);(case t6=>(refine' Can.eS ?l ?s ?v;(case l=>k_is);(case s=>decide);(case v=>exact(.cons ⟨_,rfl⟩ (.cons ⟨_,rfl⟩ .nil)))))
    (case h7=>rfl);(case t7=>(refine' Can.eS ?l ?s ?v;(case l=>k_is);(case s=>decide);(case v=>exact(.cons ⟨_,rfl⟩ .nil))))
    (case h8=>rfl);(case t8=>(refine' Can.eS ?l ?s ?v;(case l=>k_is);(case s=>decide);(case v=>exact .nil)))
    (case h9=>rfl);(case t9=>(refine' Can.eS ?l ?s ?v;(case l=>k_is);(case s=>decide);(case v=>exact(.cons ⟨_,rfl⟩ (.cons ⟨_,rfl⟩ .nil)))))
    (case h10=>rfl);(case t10=>(refine' Can.eS ?l ?s ?v;(case l=>k_is);(case s=>decide);(case v=>exact .nil)))
    (case h11=>rfl);(case t11=>(refine' Can.eS ?l ?s ?v;(case l=>k_is);(case s=>decide);(case v=>exact(.cons ⟨_,rfl⟩ (.cons ⟨_,rfl⟩ .nil)))))
