import PyProof.Rows.All
import Wide.All
import OpenK.AllK
import Wide.FinOn
import Lean
import PyProof.EqAt
import PyProof.EqKinds
import PyProof.TupleCall
import PyProof.CompFree
import PyProof.CompUse
import PySem.SetOps
import PyProof.SetScanFacts
import PyProof.TupleKey
import PyProof.SetKind
import PyProof.Rows.SetFrom
import PyProof.IsRules
import PyProof.P3Eq
import PyProof.NeKinds
import PySem.Challenge.RW_threewards_k06_whole_a_cut
set_option Elab.async false
set_option linter.all false
set_option maxRecDepth 100000
set_option Elab.async false
set_option linter.all false
set_option maxRecDepth 100000
namespace L2
open PySem PySem.Spec PyProof.Rows
abbrev Key:=Sum Int Str
def ZU:Key->Value->Bool
 |.inl k,v=>Value.isInt k v
 |.inr x,v=>Value.isStrOf x v
def my(w:World):Key->Int
 |.inl k=>hashInt k
 |.inr x=>hashStr w x
theorem II:∀{k:Key}{v:Value},ZU k v=true->(∃i t,k=Sum.inl i/\v=Value.int i t)\/(∃x t,k=Sum.inr x/\v=Value.str x t)
 |.inl i,v,h=>by
  obtain⟨t,e⟩:=Value.isInt_shape (k:=i) (v:=v) h;exact .inl ⟨i,t,rfl,e⟩
 |.inr x,v,h=>by
  obtain⟨t,e⟩:=Value.isStrOf_shape (x:=x) (v:=v) h;exact .inr ⟨x,t,rfl,e⟩
theorem mz(a b:Int):decide ((Sum.inl a:Key)=Sum.inl b)=(a==b):=by
 by_cases e:a=b
 ·subst e;simp
 ·have h:¬ (Sum.inl a:Key)=Sum.inl b:=λq=>e (Sum.inl.inj q);rw[decide_eq_false h];exact(beq_eq_false_iff_ne.mpr e).symm
theorem m9(a b:Str):decide ((Sum.inr a:Key)=Sum.inr b)=decide (a=b):=by
 by_cases e:a=b
 ·subst e;simp
 ·have h:¬ (Sum.inr a:Key)=Sum.inr b:=λq=>e (Sum.inr.inj q);rw[decide_eq_false h,decide_eq_false e]
theorem m7(a:Int)(b:Str):decide ((Sum.inl a:Key)=Sum.inr b)=false:=decide_eq_false (λq=>nomatch q)
theorem m8(a:Str)(b:Int):decide ((Sum.inr a:Key)=Sum.inl b)=false:=decide_eq_false (λq=>nomatch q)
def Z1(prog:Program)(w:World):PySem.KeyKind prog w Key where
 is:=ZU
 hash:=my w
 inj:=λv a b ha hb=>by
  rcases II ha with⟨i,t,rfl,rfl⟩|⟨x,t,rfl,rfl⟩
  ·rcases II hb with⟨j,u,rfl,e⟩|⟨y,u,rfl,e⟩
   ·injection e with e1 _;rw[e1]
   ·exact nomatch e
  ·rcases II hb with⟨j,u,rfl,e⟩|⟨y,u,rfl,e⟩
   ·exact nomatch e
   ·injection e with e1 _;rw[e1]
 byValue:=λk v h=>by
  rcases II h with⟨i,t,rfl,rfl⟩|⟨x,t,rfl,rfl⟩<;>rfl
 pyHash:=λhv h=>by
  rcases II hv with⟨i,t,rfl,rfl⟩|⟨x,t,rfl,rfl⟩
  ·exact wpAny_pyHash_int h
  ·exact wpAny_pyHash_str h
 eqBool:=λhu hv h=>by
  rcases II hu with⟨i,t,rfl,rfl⟩|⟨x,t,rfl,rfl⟩
  ·rcases II hv with⟨j,u,rfl,rfl⟩|⟨y,u,rfl,rfl⟩
   ·rw[mz]at h;exact wpAny_eqBool_int h
   ·rw[m7]at h;exact SeqAt.EqAt.int_str i t y u _ _ _ _ h
  ·rcases II hv with⟨j,u,rfl,rfl⟩|⟨y,u,rfl,rfl⟩
   ·rw[m8]at h;exact SeqAt.EqAt.str_int x t j u _ _ _ _ h
   ·rw[m9]at h;exact wpAny_eqBool_str h
 «strs»:=λk x t v h=>by
  rcases II h with⟨i,u,rfl,e⟩|⟨y,u,rfl,e⟩
  ·exact nomatch e
  ·injection e with e1 _
   subst e1;cases v<;>rfl
inductive V where
 |Bq|bl (b:Bool)|int (i:Int)|str (x:Str)|R6 (b:Array UInt8)|LZ (b:UInt64)|ref (a:Addr)|ty (n:String)
 deriving DecidableEq
def RelV:V->Value->Prop
 |.Bq,u=>u=Value.none
 |.bl b,u=>u=Value.bool b
 |.int i,u=>∃t,u=Value.int i t
 |.str x,u=>∃t,u=Value.str x t
 |.R6 b,u=>∃t,u=Value.bytes b t
 |.LZ b,u=>∃t,u=Value.float b t
 |.ref a,u=>u=Value.ref a
 |.ty n,u=>u=Value.type n
abbrev BA:List V->List Value->Prop:=Paired RelV
theorem BA.length{xs:List V}{us:List Value}(r:BA xs us):xs.length=us.length:=Paired.length r
theorem BA.get:∀{xs:List V}{us:List Value}{i:Nat}{x:V},BA xs us->xs[i]? = some x->∃u,us[i]? = some u/\RelV x u
 |_,_,_,_,.nil,e=>by simp at e
 |_,_,0,_,.cons r _,e=>by simp at e;subst e;exact⟨_,rfl,r⟩
 |_,_,i+1,x,.cons _ t,e=>by
  obtain⟨u,h1,h2⟩:=BA.get (i:=i) (x:=x) t (by simpa using e);exact⟨u,by simpa using h1,h2⟩
theorem BA.append:∀{xs ys:List V}{us ws:List Value},BA xs us->BA ys ws->BA (xs++ys) (us++ws)
 |_,_,_,_,.nil,s=>s
 |_,_,_,_,.cons r t,s=>.cons r (BA.append t s)
theorem BA.take:∀{xs:List V}{us:List Value}(n:Nat),BA xs us->BA (xs.take n) (us.take n)
 |_,_,0,_=>.nil
 |_,_,_+1,.nil=>.nil
 |_,_,n+1,.cons r t=>.cons r (BA.take n t)
theorem BA.drop:∀{xs:List V}{us:List Value}(n:Nat),BA xs us->BA (xs.drop n) (us.drop n)
 |_,_,0,r=>r
 |_,_,_+1,.nil=>.nil
 |_,_,n+1,.cons _ t=>BA.drop n t
def RZ:Option V->Option Value->Prop
 |some v,some u=>RelV v u
 |none,none=>True
 |_,_=>False
def KV{κ:Type}:List (κ×V)->List (κ×Value)->Prop:=Paired λ(p:κ×V)(q:κ×Value)=>p.1=q.1/\RelV p.2 q.2
def kV:Key->V
 |.inl i=>.int i
 |.inr x=>.str x
inductive HO where
 |lst (xs:List V)
 |tup (xs:List V)
 |dK (Bi:List (Key×V))|dT (Bi:List (List Key×V))
 |set (S:Int->Bool) (n:Nat)
 |ins (C dx:Addr) (fs:List (Str×V))
 |own (x:Addr)
 |xd (fs:List (Str×V))
 |met (f x:Addr)
 |Um (lo hi:Int)
 |Em (o:Obj) (u:HO)
 |Ks (ps:Array Value)
 |ext (φ:Heap->Prop)
abbrev Hp:=Addr->Option HO
def upd(H:Hp)(a:Addr)(o:HO):Hp:=λb=>if b=a then some o else H b
theorem Fm{H:Hp}{a:Addr}{o:HO}:upd H a o a=some o:=by unfold upd;rw[if_pos rfl]
theorem CS{H:Hp}{a b:Addr}{o:HO}(h:b≠a):upd H a o b=H b:=by unfold upd;rw[if_neg h]
theorem Ep{H:Hp}{a b:Addr}{o:HO}(h:H a=some o)(h':H b=none):a≠b:=by
 intro e;subst e;rw[h]at h';cases h'
section
variable(P:Program)(w:World)
def Dg(H:Hp)(h:Heap)(a:Addr):HO->Prop
 |.lst xs=>xs.length<=sizeLine/\∃(its:List Value)(n:Nat),BA xs its/\h.get? a=some { cls:=.type "list",data:=.seq its.toArray n }
 |.tup xs=>xs.length<=sizeLine/\∃its:List Value,BA xs its/\IsTup h a its.toArray
 |.dK Bi=>Bi.length<=sizeLine/\(a==sysModules)=false/\∃vs,KV Bi vs/\h.DictOf (Z1 P w) a vs
 |.dT Bi=>Bi.length<=sizeLine/\(a==sysModules)=false/\∃xs:List (List Key×Addr×Value),
  Paired (λ(p:List Key×V)(q:List Key×Addr×Value)=>p.1=q.1/\H q.2.1=some (.tup (p.1.map kV))/\RelV p.2 q.2.2) Bi xs/\
  ∃o es ep,h.get? a=some o/\o.ExactDict/\o.data=.dict es ep/\es.toList=xs.map (entryOfKey (tupleKind (Z1 P w)))/\(xs.map (·.1)).Nodup
 |.set S n=>h.SetOf (intKind P w) a S n
 |.ins C dx fs=>H dx=some (.own a)/\fs.length<=1000/\dx≠a/\h.get? a=some (PySem.W.instObj C dx)/\
  ∃mA,h.Ns1 dx mA/\(∀f,RZ (fs.lookup f) (mA f))/\PySem.Within mA (fs.map (·.1))
 |.own _=>∃o,h.get? a=some o
 |.xd fs=>∃mA,h.Ns1 a mA/\∀f,RZ (fs.lookup f) (mA f)
 |.Um lo hi=>∃t u v,h.get? a=some { cls:=.type "range",data:=.fields #[.int lo t,.int hi u,.int 1 v] }
 |.Em o u=>h.get? a=some o/\Dg H h a u
 |.Ks ps=>h.get? a=some { cls:=.none,data:=.fields ps }
 |.met f x=>h.get? a=some (PySem.W.methodObj (.ref f) (.ref x))
 |.ext φ=>φ h/\(∃o,h.get? a=some o)/\∀h1 h2:Heap,φ h1->(∀o,h1.get? a=some o->h2.get? a=some o)->φ h2
def Cv(H:Hp)(h:Heap):Prop:=∀a o,H a=some o->Dg P w H h a o
end
section
variable{P:Program}{w:World}{H H':Hp}{h h':Heap}{a:Addr}{o:HO}
theorem Dg.lt(x:Dg P w H h a o):a<h.objs.size:=by
 cases o with
 |lst xs=>obtain⟨_,_,_,_,e⟩:=x;exact Heap.lt_size e
 |tup xs=>obtain⟨_,_,_,p⟩:=x;exact p.lt
 |dK Bi=>obtain⟨_,_,_,_,o,_,_,e,_⟩:=x;exact Heap.lt_size e
 |dT Bi=>obtain⟨_,_,_,_,o,_,_,e,_⟩:=x;exact Heap.lt_size e
 |set S n=>obtain⟨o,_,_,_,e,_⟩:=x;exact Heap.lt_size e
 |ins C dx fs=>obtain⟨_,_,_,e,_⟩:=x;exact Heap.lt_size e
 |own y=>obtain⟨_,e⟩:=x;exact Heap.lt_size e
 |xd fs=>obtain⟨_,⟨_,_,_,e,_⟩,_⟩:=x;exact Heap.lt_size e
 |Um lo hi=>obtain⟨_,_,_,e⟩:=x;exact Heap.lt_size e
 |Em ob u=>obtain⟨e,_⟩:=x;exact Heap.lt_size e
 |Ks ps=>exact Heap.lt_size (show h.get? a=some _ from x)
 |met f y=>exact Heap.lt_size (show h.get? a=some _ from x)
 |ext φ=>obtain⟨_,⟨_,e⟩,_⟩:=x;exact Heap.lt_size e
theorem Paired.Zx{α β:Type}{F G:α->β->Prop}:∀{l₁:List α}{l₂:List β},Paired F l₁ l₂->(∀a b,F a b->G a b)->Paired G l₁ l₂
 |_,_,.nil,_=>.nil
 |_,_,.cons r t,f=>.cons (f _ _ r) (Paired.Zx t f)
theorem Dg.OG(x:Dg P w H h a o)(k:∀b u,(b=a\/H b=some (.own a))->h.get? b=some u->h'.get? b=some u) (ho:∀b,H b=some (.own a)->H' b=some (.own a)) (ht:∀b xs,H b=some (.tup xs)->H' b=some (.tup xs)):Dg P w H' h' a o:=by
 induction o with
 |lst xs=>obtain⟨z,its,n,r,e⟩:=x;exact⟨z,its,n,r,k _ _ (.inl rfl) e⟩
 |tup xs=>obtain⟨z,its,r,ob,e,c⟩:=x;exact⟨z,its,r,ob,k _ _ (.inl rfl) e,c⟩
 |dK Bi=>obtain⟨z,y,vs,r,ob,es,ep,e,c⟩:=x;exact⟨z,y,vs,r,ob,es,ep,k _ _ (.inl rfl) e,c⟩
 |dT Bi=>
  obtain⟨z,y,xs,r,ob,es,ep,e,c⟩:=x;exact⟨z,y,xs,Paired.Zx r λp q z=>⟨z.1,ht _ _ z.2.1,z.2.2⟩,ob,es,ep,k _ _ (.inl rfl) e,c⟩
 |set S n=>obtain⟨ob,es,ep,t,e,c⟩:=x;exact⟨ob,es,ep,t,k _ _ (.inl rfl) e,c⟩
 |ins C dx fs=>
  obtain⟨d,z,ne,e,mA,⟨od,es,ep,e2,c⟩,r⟩:=x;exact⟨ho _ d,z,ne,k _ _ (.inl rfl) e,mA,⟨od,es,ep,k _ _ (.inr d) e2,c⟩,r⟩
 |own y=>obtain⟨ob,e⟩:=x;exact⟨ob,k _ _ (.inl rfl) e⟩
 |xd fs=>obtain⟨mA,⟨od,es,ep,e,c⟩,r⟩:=x;exact⟨mA,⟨od,es,ep,k _ _ (.inl rfl) e,c⟩,r⟩
 |Um lo hi=>obtain⟨t,u,v,e⟩:=x;exact⟨t,u,v,k _ _ (.inl rfl) e⟩
 |Em ob u ih=>obtain⟨e,q⟩:=x;exact⟨k _ _ (.inl rfl) e,ih q⟩
 |Ks ps=>
  have e:h.get? a=some { cls:=.none,data:=.fields ps }:=x;show h'.get? a=some { cls:=.none,data:=.fields ps };exact k a _ (.inl rfl) e
 |met f y=>
  have e:h.get? a=some (PySem.W.methodObj (.ref f) (.ref y)):=x;show h'.get? a=some (PySem.W.methodObj (.ref f) (.ref y));exact k a _ (.inl rfl) e
 |ext φ=>obtain⟨p,⟨o,e⟩,st⟩:=x;exact⟨st _ _ p λo q=>k _ _ (.inl rfl) q,⟨o,k _ _ (.inl rfl) e⟩,st⟩
theorem Cv.lt(x:Cv P w H h)(e:H a=some o):a<h.objs.size:=(x a o e).lt
theorem Cv.fresh(x:Cv P w H h)(e:h.objs.size<=a):H a=none:=by
 cases q:H a with
 |none=>rfl
 |some u=>exact absurd (Nat.lt_of_lt_of_le (x.lt q) e) (Nat.lt_irrefl _)
theorem Cv.kept(x:Cv P w H h)(k:∀b u,h.get? b=some u->h'.get? b=some u):Cv P w H h':=λa o e=>
 (x a o e).OG (λb u _ q=>k b u q) (λ_ q=>q) λ_ _ q=>q
theorem Cv.laid(x:Cv P w H h)(k:∀b u,h.get? b=some u->h'.get? b=some u)(hp:h.objs.size<=a)(new:Dg P w (upd H a o) h' a o):Cv P w (upd H a o) h':=λb u e=>by
 have hn:=x.fresh hp;by_cases hb:b=a
 ·subst hb;rw[Fm]at e;cases e;exact new
 ·rw[CS hb]at e;exact(x b u e).OG (λc v _ q=>k c v q) (λc q=>by rw[CS (Ep q hn)];exact q) λc xs q=>by rw[CS (Ep q hn)];exact q
end
def Rd(H:Hp)(a:Addr)(u:HO):Prop:=H a=some u\/∃o,H a=some (.Em o u)
theorem Rd.ok{P:Program}{w:World}{H:Hp}{h:Heap}{a:Addr}{u:HO}(r:Rd H a u)(x:Cv P w H h):Dg P w H h a u:=by
 rcases r with r|⟨o,r⟩
 ·exact x a u r
 ·obtain⟨_,q⟩:=x a _ r;exact q
def Of:Option HO->Prop
 |some (.lst _)=>True
 |some (.dK _)=>True
 |some (.dT _)=>True
 |some (.set _ _)=>True
 |some (.ins _ _ _)=>True
 |some (.ext _)=>True
 |_=>False
section
variable{P:Program}{w:World}{H:Hp}{h h':Heap}{x e:Addr}{o':HO}
theorem Cv.write(ok:Cv P w H h)(mu:Of (H x))(he:e=x\/H e=some (.own x))(k:∀b u,b≠e->h.get? b=some u->h'.get? b=some u)(Lg:∃u,h'.get? e=some u) (new:Dg P w (upd H x o') h' x o'):Cv P w (upd H x o') h':=λb u q=>by
 have aD:∀c y,H c=some (.own y)->c≠x:=λc y r z=>by subst z;rw[r]at mu;exact mu
 have oC:∀c xs,H c=some (.tup xs)->c≠x:=λc xs r z=>by subst z;rw[r]at mu;exact mu
 by_cases hb:b=x
 ·subst hb;rw[Fm]at q;cases q;exact new
 ·rw[CS hb]at q;by_cases KL:b=e
  ·have q':H b=some (.own x):=by
    rcases he with z|z
    ·exact absurd (KL.trans z) hb
    ·rw[KL];exact z
   rw[q]at q';cases q';obtain⟨v,hv⟩:=Lg;exact⟨v,by rw[KL];exact hv⟩
  ·refine(ok b u q).OG (λc v hc r=>k c v ?_ r) (λc r=>by rw[CS (aD c b r)];exact r) λc xs r=>by rw[CS (oC c xs r)];exact r
   rcases hc with rfl|hc
   ·exact KL
   ·rintro rfl;rcases he with z|z
    ·exact aD c b hc z
    ·rw[hc]at z;cases z;exact hb rfl
end
structure Un(fs ex:List Addr)(H H':Hp)(h h':Heap):Prop where
 keep:∀b o,h.get? b=some o->H b=none->b∉fs->b∉ex->h'.get? b=some o
 slot:∀b o,h.get? b=some o->H b=none->b∈fs->b∉ex->∃sl,h'.get? b=some { o with slots:=sl }
 free:∀b o,h.get? b=some o->H b=none->b∉ex->H' b=none
 there:∀b o,h.get? b=some o->b∉ex->∃o',h'.get? b=some o'
 Jf:∀b xs,H b=some (.tup xs)->H' b=some (.tup xs)
 IB:∀b o u,H b=some (.Em o u)->H' b=some (.Em o u)
 Jd:∀b ps,H b=some (.Ks ps)->∃more,H' b=some (.Ks (ps++more))
section
variable{fs jl ex xQ:List Addr}{H H1 H2:Hp}{h h1 h2 h':Heap}{a x e:Addr}{o:HO}
theorem Un.any(u:Un fs ex H H1 h h1){b:Addr}{ob:Obj}(q:h.get? b=some ob)(n:H b=none)(hx:b∉ex):∃sl,h1.get? b=some { ob with slots:=sl }:=by
 by_cases hb:b∈fs
 ·exact u.slot b ob q n hb hx
 ·exact⟨ob.slots,u.keep b ob q n hb hx⟩
theorem Un.kept(k:∀b u,h.get? b=some u->h'.get? b=some u):Un fs ex H H h h':=
 ⟨λb ob q _ _ _=>k b ob q,λb ob q _ _ _=>⟨ob.slots,k b ob q⟩,λ_ _ _ n _=>n,λb ob q _=>⟨ob,k b ob q⟩,λ_ _ q=>q,λ_ _ _ q=>q,λ_ ps q=>⟨#[],by rw[q];simp⟩⟩
theorem Un.refl:Un fs ex H H h h:=Un.kept λ_ _ q=>q
theorem Un.laid(k:∀b u,h.get? b=some u->h'.get? b=some u)(hp:h.objs.size<=a)(hn:H a=none):Un fs ex H (upd H a o) h h' where
 keep:=λb u q _ _ _=>k b u q
 slot:=λb u q _ _ _=>⟨u.slots,k b u q⟩
 free:=λb u q n _=>by rw[CS (Nat.ne_of_lt (Nat.lt_of_lt_of_le (Heap.lt_size q) hp))];exact n
 there:=λb u q _=>⟨u,k b u q⟩
 Jf:=λb xs q=>by rw[CS (Ep q hn)];exact q
 IB:=λb u xs q=>by rw[CS (Ep q hn)];exact q
 Jd:=λb ps q=>⟨#[],by rw[CS (Ep q hn),q];simp⟩
theorem Un.write(mu:Of (H x))(he:e=x\/H e=some (.own x))(k:∀b u,b≠e->h.get? b=some u->h'.get? b=some u)(Lg:∃u,h'.get? e=some u):Un fs ex H (upd H x o) h h':=by
 have hx:∀b,H b=none->b≠x:=λb n z=>by subst z;rw[n]at mu;exact mu
 have hb:∀b,H b=none->b≠e:=λb n z=>by
  subst z;rcases he with r|r
  ·exact hx b n r
  ·rw[n]at r;cases r
 have hm:∀b u,H b=some u->¬ Of (some u)->b≠x:=λb u q nm z=>by subst z;rw[q]at mu;exact nm mu
 refine⟨λb u q n _ _=>k b u (hb b n) q,λb u q n _ _=>⟨u.slots,k b u (hb b n) q⟩,λb u q n _=>by rw[CS (hx b n)];exact n,λb u q _=>?_,
  λb xs q=>by rw[CS (hm b _ q λz=>z)];exact q,λb u xs q=>by rw[CS (hm b _ q λz=>z)];exact q,λb ps q=>⟨#[],by rw[CS (hm b _ q λz=>z),q];simp⟩⟩
 by_cases KL:b=e
 ·subst KL;exact Lg
 ·exact⟨u,k b u KL q⟩
end
def RA(h:Heap)(H:Hp):List Addr:=(List.range h.objs.size).filter λa=>(H a).isSome
def ID(h:Heap)(H:Hp):Heap:=PySem.W.hideAll h (RA h H)
theorem kx(h:Heap)(H:Hp):(ID h H).objs.size=h.objs.size:=PySem.W.hideAll_size _ _
theorem kv{h:Heap}{H:Hp}{b:Addr}{o:Obj}(e:h.get? b=some o)(n:H b=none):(ID h H).get? b=some o:=
 PySem.W.hideAll_get _ e λhm=>by
  have q:(H b).isSome=true:=(List.mem_filter.mp hm).2;rw[n]at q;simp at q
theorem oG{h:Heap}{H:Hp}{b:Addr}{o:Obj}(e:(ID h H).get? b=some o):h.get? b=some o/\H b=none:=by
 have e':h.get? b=some o:=PySem.W.of_hideAll (RA h H) e;refine⟨e',?_⟩;cases q:H b with
 |none=>rfl
 |some x=>
  have hm:b∈RA h H:=List.mem_filter.mpr ⟨List.mem_range.mpr (Heap.lt_size e'),by simp[q]⟩;have z:(ID h H).get? b=none:=PySem.W.hideAll_none (RA h H) hm;rw[z]at e;cases e
structure Mod(K:PySem.W.Frag)(mg:Str->Option Value)(base:Heap):Prop where
 UB:K.In base
 glob:base.Ns mainGlobals mg
 blt:∃mb,base.Ns builtinsNs mb/\∀x:Str,x≠"__name__"->mb x=bootBuiltins x
 nolimit:base.NoLimit
structure Cx where
 prog:Program
 w:World
 K:PySem.W.Frag
 mg:Str->Option Value
 base:Heap
 A:Around
 N:List Str
 DM:Shared
 Ao:Hp
 env:Env
 outer:List Env
 stack:List Env
 ex:List Addr
 fn:Str->Bool
 calm:Bool
 pn:List (Addr×Obj)
 xe:Value->Shared->Prop
def E3(l:List Env):List Addr:=l.filterMap (·.frame)
abbrev Cx.fs(X:Cx):List Addr:=E3 X.outer
def Ia(sc:Scope)(x:Str):Prop:=sc.names.lookup x=some .local\/sc.names.lookup x=some .cell\/sc.names.lookup x=some .free
def Loc(sc:Scope)(x:Str):Prop:=sc.names.lookup x=some .local\/sc.names.lookup x=some .cell
def Look(env:Env)(h:Heap)(m:Str->Option Value)(x:Str)(u:Value):Prop:=
 (env.kindOf x=some .local/\m x=some u)\/((env.kindOf x=some .cell\/env.kindOf x=some .free)/\∃c,env.cells.lookup x=some c/\h.IsCell c (some u))
structure Cx.Ok(X:Cx):Prop where
 mod:Mod X.K X.mg X.base
 kind:X.env.scope.kind=.function
 glob:X.env.globals=mainGlobals
 blt:X.env.builtins=builtinsNs
 above:X.DM.heap.objs.size<=X.env.locals
 inj:∀x y c,X.env.cells.lookup x=some c->X.env.cells.lookup y=some c->x=y
 has:∀x,(X.env.kindOf x=some .cell\/X.env.kindOf x=some .free)->∃c,X.env.cells.lookup x=some c
 Mi:∀x c,X.fn x=true->X.env.cells.lookup x=some c->X.DM.heap.objs.size<=c
 hd:X.calm=true->X.A.handled=none
 frames:X.A.frames=some X.stack
 OH:X.stack=X.outer\/(X.stack=X.env::X.outer/\X.env.frame=some X.env.locals)
 O6:∀b∈X.ex,b≠X.env.locals/\∀x c,X.env.cells.lookup x=some c->c≠b
 bs:∀b o,X.base.get? b=some o->X.DM.heap.get? b=some o/\X.Ao b=none
 Ih:X.base.objs.size<=X.DM.heap.objs.size
 Nq:∀b o,X.base.get? b=some o->b∉X.ex
 Mv:∀b∈X.ex,b∉X.fs
 Ge:X.DM.heap.FunFrames X.base X.outer
 Lb:∀b∈X.fs,X.Ao b=none
structure Inv(X:Cx)(AH:List (Addr×Obj))(σ:List (Option V))(H:Hp)(s:Shared):Prop where
 ok:X.Ok
 os:s.os=X.DM.os
 bare:AllBare s.gens
 base:Un X.fs X.ex X.Ao H X.DM.heap s.heap
 loc:∃m,s.heap.Ns X.env.locals m/\∀(i:Nat)(x:Str)(v:V),X.N[i]? = some x->σ[i]? = some (some v)->Ia X.env.scope x->∃u,RelV v u/\Look X.env s.heap m x u
 cell:∀x c,X.env.cells.lookup x=some c->∃v,s.heap.IsCell c v
 free:H X.env.locals=none
 HQ:∀x c,X.env.cells.lookup x=some c->H c=none
 pin:∀p∈X.pn++AH,s.heap.get? p.1=some p.2/\H p.1=none/\p.1≠X.env.locals/\p.1∉X.fs/\∀v,p.2.data≠.cell v
 A2:Cv X.prog X.w H s.heap
 len:σ.length=X.N.length
section
variable{X:Cx}{AH:List (Addr×Obj)}{σ:List (Option V)}{H H':Hp}{s:Shared}{h':Heap}
theorem Cx.Ok.nz(ok:X.Ok){b:Addr}{o:Obj}(e:X.base.get? b=some o):b∉X.fs:=λhb=>by
 have:=(ok.Ge.mem hb).1;rw[e]at this;cases this
theorem Inv.bs(I:Inv X AH σ H s):∀b o,X.base.get? b=some o->s.heap.get? b=some o/\H b=none:=λb o e=>
 ⟨I.base.keep b o (I.ok.bs b o e).1 (I.ok.bs b o e).2 (I.ok.nz e) (I.ok.Nq b o e),I.base.free b o (I.ok.bs b o e).1 (I.ok.bs b o e).2 (I.ok.Nq b o e)⟩
theorem Inv.bk(I:Inv X AH σ H s):∀b o,X.base.get? b=some o->s.heap.get? b=some o:=λb o e=>(I.bs b o e).1
theorem Inv.mod(I:Inv X AH σ H s):Mod X.K X.mg X.base:=I.ok.mod
theorem Inv.Bl(I:Inv X AH σ H s):X.K.In s.heap:=I.ok.mod.UB.keeps I.bk
theorem Inv.lt(I:Inv X AH σ H s):X.env.locals<s.heap.objs.size:=let ⟨_,hn,_⟩:=I.loc;hn.lt
theorem Inv.sz(I:Inv X AH σ H s):X.DM.heap.objs.size<=s.heap.objs.size:=Nat.le_trans I.ok.above (Nat.le_of_lt I.lt)
theorem Inv.oA(I:Inv X AH σ H s){a:Addr}(h:s.heap.objs.size<=a):a∉X.fs:=λhb=>by
 obtain⟨_,o,ho,_⟩:=I.ok.Ge.mem hb;exact absurd (Nat.lt_of_lt_of_le (Heap.lt_size ho) (Nat.le_trans I.sz h)) (Nat.lt_irrefl _)
theorem Inv.Jz(I:Inv X AH σ H s):∀x c,X.env.cells.lookup x=some c->c≠X.env.locals:=λx c e z=>by
 obtain⟨v,o,ho,hd⟩:=I.cell x c e;obtain⟨m,⟨o',es,ep,CY,IC,_⟩,_⟩:=I.loc;rw[z,CY]at ho;cases ho;rw[IC]at hd;cases hd
theorem Inv.Ge(I:Inv X AH σ H s):s.heap.FunFrames X.base X.outer:=by
 have all:∀(l:List Env),(∀b∈E3 l,b∈X.fs)->X.DM.heap.FunFrames X.base l->s.heap.FunFrames X.base l:=by
  intro l
  induction l with
  |nil=>intro _ _;trivial
  |cons env r ih=>
   intro hs hl;obtain⟨hk,⟨L,o,hf,hn,ho,hd⟩,hr⟩:=hl;have hL:L∈X.fs:=hs L (by unfold E3;rw[List.filterMap_cons,hf];exact List.mem_cons_self);obtain⟨sl,e⟩:=I.base.slot L o ho (I.ok.Lb L hL) hL λz=>I.ok.Mv L z hL
   exact⟨hk,⟨L,_,hf,hn,e,hd⟩,ih (λb hb=>hs b (by unfold E3;rw[List.filterMap_cons,hf];exact List.mem_cons_of_mem _ hb)) hr⟩
 exact all X.outer (λ_ hb=>hb) I.ok.Ge
theorem Inv.stack(I:Inv X AH σ H s):s.heap.FunFrames X.base X.stack:=by
 rcases I.ok.OH with e|⟨e,hf⟩
 ·rw[e];exact I.Ge
 ·rw[e];obtain⟨m,hn,_⟩:=I.loc;refine .cons (by rw[I.ok.kind];decide) hf hn ?_ I.Ge;exact Heap.get?_none_of_le (Nat.le_trans I.ok.Ih I.ok.above)
theorem Inv.Qz(I:Inv X AH σ H s):∀b∈E3 X.stack,b∈X.env.locals::X.fs:=λb hb=>by
 rcases I.ok.OH with e|⟨e,hf⟩
 ·rw[e]at hb;exact List.mem_cons_of_mem _ hb
 ·rw[e]at hb;unfold E3 at hb;rw[List.filterMap_cons,hf]at hb;exact hb
theorem Inv.cN(I:Inv X AH σ H s):∀b∈E3 X.stack,H b=none:=λb hb=>by
 rcases List.mem_cons.mp (I.Qz b hb)with e|hb
 ·rw[e];exact I.free
 ·obtain⟨_,o,ho,_⟩:=I.ok.Ge.mem hb;exact I.base.free b o ho (I.ok.Lb b hb) λz=>I.ok.Mv b z hb
theorem Inv.step{g':Array GenState}{t':Nat}{d':Drawn}{ch:List Addr}(I:Inv X AH σ H s) (HV:∀b∈ch,(b∈X.ex\/X.DM.heap.objs.size<=b)/\b≠X.env.locals/\(∀x c,X.env.cells.lookup x=some c->c≠b)/\∀p∈X.pn++AH,p.1≠b) (keep:∀b o,b≠X.env.locals->b∉X.fs->b∉ch->s.heap.get? b=some o->H b=none->h'.get? b=some o) (slot:∀b o,b≠X.env.locals->b∈X.fs->b∉ch->s.heap.get? b=some o->H b=none->∃sl,h'.get? b=some { o with slots:=sl }) (free:∀b o,b∉ch->s.heap.get? b=some o->H b=none->H' b=none) (there:∀b o,b∉ch->s.heap.get? b=some o->∃o',h'.get? b=some o') (Jf:∀b xs,H b=some (.tup xs)->H' b=some (.tup xs)) (IB:∀b o u,H b=some (.Em o u)->H' b=some (.Em o u)) (Jd:∀b ps,H b=some (.Ks ps)->∃more,H' b=some (.Ks (ps++more))) (ns:∀m,s.heap.Ns X.env.locals m->h'.Ns X.env.locals m) (A2:Cv X.prog X.w H' h') (hg:AllBare g') : Inv X AH σ H' { s with heap:=h',gens:=g',drawn:=d',toks:=t' }:=by
 have Z7:∀b o,X.DM.heap.get? b=some o->b≠X.env.locals:=λb o e=>Nat.ne_of_lt (Nat.lt_of_lt_of_le (Heap.lt_size e) I.ok.above);have QF:∀b o,X.DM.heap.get? b=some o->b∉X.ex->b∉ch:=λb o e hx hb=>by
  rcases(HV b hb).1 with z|z
  ·exact hx z
  ·exact absurd (Nat.lt_of_lt_of_le (Heap.lt_size e) z) (Nat.lt_irrefl _)
 have cellK:∀x c,X.env.cells.lookup x=some c->∀v,s.heap.IsCell c v->h'.IsCell c v:=λx c e v ⟨o,ho,hd⟩=>by
  have Nn:c∉ch:=λz=>(HV c z).2.2.1 x c e rfl;by_cases hc:c∈X.fs
  ·obtain⟨sl,q⟩:=slot c o (I.Jz x c e) hc Nn ho (I.HQ x c e);exact⟨_,q,hd⟩
  ·exact⟨o,keep c o (I.Jz x c e) hc Nn ho (I.HQ x c e),hd⟩
 refine⟨I.ok,I.os,hg,⟨λb o e n hb hx=>?_,λb o e n hb hx=>?_,λb o e n hx=>?_,λb o e hx=>?_,λb xs e=>Jf b xs (I.base.Jf b xs e),λb o xs e=>IB b o xs (I.base.IB b o xs e),λb ps e=>?_⟩,?_,λx c e=>?_,?_,λx c e=>?_,λp hp=>?_,A2,I.len⟩
 ·exact keep b o (Z7 b o e) hb (QF b o e hx) (I.base.keep b o e n hb hx) (I.base.free b o e n hx)
 ·obtain⟨sl,e1⟩:=I.base.slot b o e n hb hx;obtain⟨tJ,e2⟩:=slot b _ (Z7 b o e) hb (QF b o e hx) e1 (I.base.free b o e n hx);exact⟨tJ,e2⟩
 ·obtain⟨o',e1⟩:=I.base.there b o e hx;exact free b o' (QF b o e hx) e1 (I.base.free b o e n hx)
 ·obtain⟨o',e1⟩:=I.base.there b o e hx;exact there b o' (QF b o e hx) e1
 ·obtain⟨m1,e1⟩:=I.base.Jd b ps e;obtain⟨m2,e2⟩:=Jd b _ e1;exact⟨m1++m2,by rw[e2,Array.append_assoc]⟩
 ·obtain⟨m,hn,hl⟩:=I.loc;refine⟨m,ns m hn,λi x v e1 e2 e3=>?_⟩;obtain⟨u,r,l⟩:=hl i x v e1 e2 e3;refine⟨u,r,?_⟩;rcases l with l|⟨k,c,e,z⟩
  ·exact .inl l
  ·exact .inr ⟨k,c,e,cellK x c e _ z⟩
 ·obtain⟨v,z⟩:=I.cell x c e;exact⟨v,cellK x c e v z⟩
 ·obtain⟨m,⟨o,_,_,ho,_⟩,_⟩:=I.loc;exact free _ o (λz=>(HV _ z).2.1 rfl) ho I.free
 ·obtain⟨v,o,ho,hd⟩:=I.cell x c e;exact free c o (λz=>(HV c z).2.2.1 x c e rfl) ho (I.HQ x c e)
 ·obtain⟨e,n,ne,nf,d⟩:=I.pin p hp;have Nn:p.1∉ch:=λz=>(HV p.1 z).2.2.2 p hp rfl;exact⟨keep p.1 p.2 ne nf Nn e n,free p.1 p.2 Nn e n,ne,nf,d⟩
theorem Inv.un{t':Nat}(I:Inv X AH σ H s)(u:Un X.fs [] H H' s.heap h')(A2:Cv X.prog X.w H' h'):Inv X AH σ H' { s with heap:=h',toks:=t' }:=by
 obtain⟨m,⟨o,es,ep,ho,r⟩,_⟩:=id I.loc;obtain⟨sl,hL⟩:=u.any ho I.free (by simp);exact I.step (g':=s.gens) (d':=s.drawn) (ch:=[]) (λ_ z=>nomatch z) (λb o _ hb _ e n=>u.keep b o e n hb (by simp)) (λb o _ hb _ e n=>u.slot b o e n hb (by simp)) (λb o _ e n=>u.free b o e n (by simp)) (λb o _ e=>u.there b o e (by simp)) u.Jf u.IB u.Jd (λm' hm=>by
  obtain⟨o',es',So,CY,r'⟩:=hm;rw[ho]at CY;cases CY;exact⟨_,es',So,hL,r'⟩) A2 I.bare
theorem Inv.call{g':Array GenState}{t':Nat}{d':Drawn}{ch:List Addr}(I:Inv X AH σ H s)(u:Un (E3 X.stack) ch H H' s.heap h')(A2:Cv X.prog X.w H' h')(hg:AllBare g') (HV:∀b∈ch,(b∈X.ex\/X.DM.heap.objs.size<=b)/\b≠X.env.locals/\(∀x c,X.env.cells.lookup x=some c->c≠b)/\∀p∈X.pn++AH,p.1≠b) : Inv X AH σ H' { s with heap:=h',gens:=g',drawn:=d',toks:=t' }:=by
 obtain⟨m,⟨o,es,ep,ho,r⟩,_⟩:=id I.loc;obtain⟨sl,hL⟩:=u.any ho I.free λz=>(HV _ z).2.1 rfl
 exact I.step (ch:=ch) HV (λb o hL hb hc e n=>u.keep b o e n (λz=>(List.mem_cons.mp (I.Qz b z)).elim hL hb) hc) (λb o _ _ hc e n=>u.any e n hc) (λb o hc e n=>u.free b o e n hc) (λb o hc e=>u.there b o e hc) u.Jf u.IB u.Jd (λm' hm=>by
  obtain⟨o',es',So,CY,r'⟩:=hm;rw[ho]at CY;cases CY;exact⟨_,es',So,hL,r'⟩) A2 hg
theorem Inv.turned{t':Nat}{it:Addr}(I:Inv X AH σ H s)(k:∀b o,b≠it->s.heap.get? b=some o->h'.get? b=some o)(hn:H it=none)(hL:it≠X.env.locals) (h1:it∈X.ex\/X.DM.heap.objs.size<=it) (h2:∀x c,X.env.cells.lookup x=some c->c≠it) (h3:∀p∈X.pn++AH,p.1≠it):Inv X AH σ H { s with heap:=h',toks:=t' }:=by
 have Z8:∀b u,H b=some u->b≠it:=λb u e z=>by rw[z,hn]at e;cases e
 refine I.step (g':=s.gens) (d':=s.drawn) (ch:=[it]) (λb hb=>?_) (λb o _ _ hc e _=>k b o (λz=>hc (by simp[z])) e) (λb o _ _ hc e _=>⟨o.slots,k b o (λz=>hc (by simp[z])) e⟩) (λ_ _ _ _ n=>n)
  (λb o hc e=>⟨o,k b o (λz=>hc (by simp[z])) e⟩) (λ_ _ e=>e) (λ_ _ _ e=>e) (λb ps e=>⟨#[],by rw[e];simp⟩) (λm hm=>?_) (λb u e=>?_) I.bare
 ·have e:b=it:=by simpa using hb
  subst e;exact⟨h1,hL,h2,h3⟩
 ·obtain⟨o,es,ep,ho,r⟩:=hm;exact⟨o,es,ep,k _ o (Ne.symm hL) ho,r⟩
 ·refine(I.A2 b u e).OG (λc v hc q=>k c v ?_ q) (λ_ q=>q) λ_ _ q=>q;rcases hc with z|z
  ·rw[z];exact Z8 b u e
  ·exact Z8 c _ z
theorem Inv.tok(I:Inv X AH σ H s)(t:Nat):Inv X AH σ H { s with toks:=t }:=I.un (h':=s.heap) (t':=t) Un.refl I.A2
theorem Inv.kept{t':Nat}(I:Inv X AH σ H s)(k:∀b u,s.heap.get? b=some u->h'.get? b=some u):Inv X AH σ H { s with heap:=h',toks:=t' }:=I.un (Un.kept k) (I.A2.kept k)
theorem Inv.laid{a:Addr}{o:HO}{t':Nat}(I:Inv X AH σ H s)(k:∀b u,s.heap.get? b=some u->h'.get? b=some u)(hp:s.heap.objs.size<=a)(new:Dg X.prog X.w (upd H a o) h' a o) : Inv X AH σ (upd H a o) { s with heap:=h',toks:=t' }:=I.un (Un.laid k hp (I.A2.fresh hp)) (I.A2.laid k hp new)
theorem Inv.write{x e:Addr}{o:HO}{t':Nat}(I:Inv X AH σ H s)(mu:Of (H x))(he:e=x\/H e=some (.own x))(k:∀b u,b≠e->s.heap.get? b=some u->h'.get? b=some u)(Lg:∃u,h'.get? e=some u) (new:Dg X.prog X.w (upd H x o) h' x o):Inv X AH σ (upd H x o) { s with heap:=h',toks:=t' }:=I.un (Un.write mu he k Lg) (I.A2.write mu he k Lg new)
theorem Inv.ai{ah:List (Addr×Obj)}(I:Inv X AH σ H s)(h:∀p∈ah,s.heap.get? p.1=some p.2/\H p.1=none/\p.1≠X.env.locals/\p.1∉X.fs/\∀v,p.2.data≠.cell v):Inv X ah σ H s:=
 ⟨I.ok,I.os,I.bare,I.base,I.loc,I.cell,I.free,I.HQ,λp hp=>(List.mem_append.mp hp).elim (λz=>I.pin p (List.mem_append_left _ z)) (h p),I.A2,I.len⟩
theorem aA{N:List Str}(hN:N.Nodup){i j:Nat}{x:Str}(a:N[i]? = some x)(b:N[j]? = some x):i=j:=by
 obtain⟨h1,e1⟩:=List.getElem?_eq_some_iff.mp a;obtain⟨h2,e2⟩:=List.getElem?_eq_some_iff.mp b;exact(List.getElem_inj hN).mp (e1.trans e2.symm)
theorem cO{M:Model}{A:Around}{E:Value->Shared->Prop}{i:Nat}{x:Str}{v:V}{u:Value}{Q:Unit->Shared->Prop}(I:Inv X AH σ H s)(hN:X.N.Nodup)(hi:X.N[i]? = some x)(hx:Loc X.env.scope x)(r:RelV v u) (h:∀s',Inv X AH (σ.set i (some v)) H s'->(∃a,Heap.SameBut a s.heap s'.heap/\(a=X.env.locals\/X.env.cells.lookup x=some a))->Q () s') (hf:X.fn x=true\/X.env.scope.names.lookup x=some .local:=by first|exact .inl rfl|exact .inr rfl|assumption):wpAny M A (storeName X.env x u) Q E s:=by
 obtain⟨m,hn,hl⟩:=id I.loc;have kb:(X.env.scope.kind == .class||(X.env.scope.kind == .module&&X.env.locals != X.env.globals))=false:=by rw[I.ok.kind];rfl
 have Yi:i<σ.length:=by rw[I.len];exact(List.getElem?_eq_some_iff.mp hi).1
 have Jz:=I.Jz;have tracked:∀{a:Addr}{h':Heap},(∃o,s.heap.get? a=some o/\H a=none)->Heap.SameBut a s.heap h'->Cv X.prog X.w H h':=λ{a h'} ha hs b ob e=>by
  obtain⟨_,_,JC⟩:=ha;refine(I.A2 b ob e).OG (λc w' hc q=>(hs.2 c ?_).trans q) (λ_ q=>q) λ_ _ q=>q;rintro rfl;rcases hc with rfl|hc
  ·rw[JC]at e;cases e
  ·rw[JC]at hc;cases hc
 rcases hx with hk|hk
 ·refine wpAny_storeName_local hk hn (λh' Th hs=>?_) kb;obtain⟨oL,_,_,lN,_⟩:=id hn;refine h _ ⟨I.ok,I.os,I.bare,⟨λb o e n hb hx=>?_,λb o e n hb hx=>?_,I.base.free,λb o e hx=>?_,I.base.Jf,I.base.IB,I.base.Jd⟩,⟨_,Th,λj y v' e1 e2 e3=>?_⟩,λy c e=>?_,I.free,I.HQ,λp hp=>?_,tracked ⟨oL,lN,I.free⟩ hs,by simpa using I.len⟩ ⟨_,hs,.inl rfl⟩
  ·exact(hs.2 b (Nat.ne_of_lt (Nat.lt_of_lt_of_le (Heap.lt_size e) I.ok.above))).trans (I.base.keep b o e n hb hx)
  ·obtain⟨sl,e1⟩:=I.base.slot b o e n hb hx;exact⟨sl,(hs.2 b (Nat.ne_of_lt (Nat.lt_of_lt_of_le (Heap.lt_size e) I.ok.above))).trans e1⟩
  ·obtain⟨o',e1⟩:=I.base.there b o e hx;exact⟨o',(hs.2 b (Nat.ne_of_lt (Nat.lt_of_lt_of_le (Heap.lt_size e) I.ok.above))).trans e1⟩
  ·by_cases hj:j=i
   ·subst hj;rw[hi]at e1;cases e1;rw[List.getElem?_set_self Yi]at e2;cases e2;exact⟨u,r,.inl ⟨hk,by simp⟩⟩
   ·rw[List.getElem?_set_ne (Ne.symm hj)]at e2;obtain⟨u',r',q⟩:=hl j y v' e1 e2 e3;refine⟨u',r',?_⟩;rcases q with⟨k,e⟩|⟨k,c,e,z⟩
    ·refine .inl ⟨k,?_⟩;have:y≠x:=λe=>hj (aA hN e1 (e ▸ hi));simp[this,e]
    ·exact .inr ⟨k,c,e,z.sameBut hs (Jz y c e)⟩
  ·obtain⟨w',z⟩:=I.cell y c e;exact⟨w',z.sameBut hs (Jz y c e)⟩
  ·obtain⟨e,n,ne,nf,d⟩:=I.pin p hp;exact⟨(hs.2 p.1 ne).trans e,n,ne,nf,d⟩
 ·have TX:X.fn x=true:=by
   rcases hf with z|z
   ·exact z
   ·rw[z]at hk;cases hk
  obtain⟨c,hc⟩:=I.ok.has x (.inl hk);obtain⟨w',z⟩:=I.cell x c hc;refine wpAny_storeName_cell I.ok.kind hk hc z (λh' HU hs=>?_);obtain⟨oc,Yx,lO⟩:=id z;refine h { s with heap:=h' } ⟨I.ok,I.os,I.bare,⟨λb o e n hb hx=>?_,λb o e n hb hx=>?_,I.base.free,λb o e hx=>?_,I.base.Jf,I.base.IB,I.base.Jd⟩,⟨m,hn.sameBut hs (Ne.symm (Jz x c hc)),λj y v' e1 e2 e3=>?_⟩,λy c' e=>?_,I.free,I.HQ,λp hp=>?_,tracked ⟨oc,Yx,I.HQ x c hc⟩ hs,by simpa using I.len⟩ ⟨c,hs,.inr hc⟩
  ·exact(hs.2 b (Nat.ne_of_lt (Nat.lt_of_lt_of_le (Heap.lt_size e) (I.ok.Mi x c TX hc)))).trans (I.base.keep b o e n hb hx)
  ·obtain⟨sl,e1⟩:=I.base.slot b o e n hb hx;exact⟨sl,(hs.2 b (Nat.ne_of_lt (Nat.lt_of_lt_of_le (Heap.lt_size e) (I.ok.Mi x c TX hc)))).trans e1⟩
  ·obtain⟨o',e1⟩:=I.base.there b o e hx;exact⟨o',(hs.2 b (Nat.ne_of_lt (Nat.lt_of_lt_of_le (Heap.lt_size e) (I.ok.Mi x c TX hc)))).trans e1⟩
  ·by_cases hj:j=i
   ·subst hj;rw[hi]at e1;cases e1;rw[List.getElem?_set_self Yi]at e2;cases e2;exact⟨u,r,.inr ⟨.inl hk,c,hc,HU⟩⟩
   ·rw[List.getElem?_set_ne (Ne.symm hj)]at e2;obtain⟨u',r',q⟩:=hl j y v' e1 e2 e3;refine⟨u',r',?_⟩;rcases q with q|⟨k,c',e,z'⟩
    ·exact .inl q
    ·refine .inr ⟨k,c',e,z'.sameBut hs ?_⟩;rintro rfl;exact hj (aA hN e1 (I.ok.inj _ _ _ e hc ▸ hi))
  ·by_cases E6:c'=c
   ·subst E6;exact⟨_,HU⟩
   ·obtain⟨w2,z2⟩:=I.cell y c' e;exact⟨w2,z2.sameBut hs E6⟩
  ·obtain⟨e,n,ne,nf,d⟩:=I.pin p hp;refine⟨(hs.2 p.1 ?_).trans e,n,ne,nf,d⟩;intro q;rw[q,Yx]at e;have q':oc=p.2:=Option.some.inj e;exact d w' (by rw[<-q'];exact lO)
theorem Q0{M:Model}{A:Around}{E:Value->Shared->Prop}{i:Nat}{x:Str}{v:V}{u:Value}{Q:Unit->Shared->Prop}(I:Inv X AH σ H s)(hN:X.N.Nodup)(hi:X.N[i]? = some x)(hx:Loc X.env.scope x)(r:RelV v u) (h:∀s',Inv X AH (σ.set i (some v)) H s'->Q () s') (hf:X.fn x=true\/X.env.scope.names.lookup x=some .local:=by first|exact .inl rfl|exact .inr rfl|assumption):wpAny M A (storeName X.env x u) Q E s:=
 cO I hN hi hx r (λs' I' _=>h s' I') hf
theorem Inv.gJ{s':Shared}{ch:List Addr}(I:Inv X AH σ H s)(ho:s'.os=s.os)(u:Un (E3 X.stack) ch H H' s.heap s'.heap)(A2:Cv X.prog X.w H' s'.heap)(hg:AllBare s'.gens) (HV:∀b∈ch,(b∈X.ex\/X.DM.heap.objs.size<=b)/\b≠X.env.locals/\(∀x c,X.env.cells.lookup x=some c->c≠b)/\∀p∈X.pn++AH,p.1≠b):Inv X AH σ H' s':=by
 obtain⟨h',g',d',t',o'⟩:=s';have e:o'=s.os:=ho;subst e;exact I.call (g':=g') (t':=t') (d':=d') u A2 hg HV
end
abbrev XK:=Value->Option Addr->Hp->Prop
abbrev St:=List (Option V)
abbrev VK:=V->Hp->Prop
abbrev TE:=St->Hp->VK->Prop
abbrev TT:=St->Hp->(Bool->Hp->Prop)->Prop
abbrev TA:=St->Hp->(List V->Hp->Prop)->Prop
structure Ends where
 nx:St->Hp->Prop
 rt:VK
 bk:St->Hp->Prop:=λ_ _=>False
 ct:St->Hp->Prop:=λ_ _=>False
abbrev TS:=Ends->St->Hp->Prop
def EP(X:Cx)(AH:List (Addr×Obj))(σ:St)(Q:VK)(u:Value)(s':Shared):Prop:=∃v H',Inv X AH σ H' s'/\RelV v u/\Q v H'
def TP(X:Cx)(AH:List (Addr×Obj))(σ:St)(Q:Bool->Hp->Prop)(b:Bool)(s':Shared):Prop:=∃H',Inv X AH σ H' s'/\Q b H'
def AP(X:Cx)(AH:List (Addr×Obj))(σ:St)(Q:List V->Hp->Prop)(us:List Value)(s':Shared):Prop:=∃vs H',Inv X AH σ H' s'/\BA vs us/\Q vs H'
def SP(X:Cx)(AH:List (Addr×Obj))(D:Ends)(f:Flow)(s':Shared):Prop:=
 match f with
 |.next=>∃Aq H',Inv X AH Aq H' s'/\D.nx Aq H'
 |.brk=>∃Aq H',Inv X AH Aq H' s'/\D.bk Aq H'
 |.cont=>∃Aq H',Inv X AH Aq H' s'/\D.ct Aq H'
 |.ret u=>∃v Aq H',Inv X AH Aq H' s'/\RelV v u/\D.rt v H'
def PE(X:Cx)(e:Expr)(t:TE):Prop:=
 ∀(AH:List (Addr×Obj))(s:Shared)(σ:St)(H:Hp)(Q:VK),Inv X AH σ H s->t σ H Q->wpAny (model X.prog X.w) X.A (eval e X.env) (EP X AH σ Q) X.xe s
def PT(X:Cx)(e:Expr)(t:TT):Prop:=
 ∀(AH:List (Addr×Obj))(s:Shared)(σ:St)(H:Hp)(Q:Bool->Hp->Prop),Inv X AH σ H s->t σ H Q->wpAny (model X.prog X.w) X.A (isTrue e X.env (eval e X.env)) (TP X AH σ Q) X.xe s
def PW(X:Cx)(e:Expr)(t:TT):Prop:=
 ∀(Ji:Sem Value)(AH:List (Addr×Obj))(s:Shared)(σ:St)(H:Hp)(Q:Bool->Hp->Prop),Inv X AH σ H s->t σ H Q->wpAny (model X.prog X.w) X.A (isTrue e X.env Ji) (TP X AH σ Q) X.xe s
theorem PW.pt{X:Cx}{e:Expr}{t:TT}(h:PW X e t):PT X e t:=h _
def PA(X:Cx)(es:List Expr)(t:TA):Prop:=
 ∀(pos:Pos)(AH:List (Addr×Obj))(s:Shared)(σ:St)(H:Hp)(Q:List V->Hp->Prop),Inv X AH σ H s->t σ H Q->wpAny (model X.prog X.w) X.A (spliced (backTo pos (starEach es X.env))) (AP X AH σ Q) X.xe s
def PS(X:Cx)(st:Stmt)(t:TS):Prop:=
 ∀(AH:List (Addr×Obj))(s:Shared)(σ:St)(H:Hp)(D:Ends),Inv X AH σ H s->t D σ H->wpAny (model X.prog X.w) X.A (exec st X.env) (SP X AH D) X.xe s
def D4(X:Cx)(st:List Stmt)(t:TS):Prop:=
 ∀(AH:List (Addr×Obj))(s:Shared)(σ:St)(H:Hp)(D:Ends),Inv X AH σ H s->t D σ H->wpAny (model X.prog X.w) X.A (execs st X.env) (SP X AH D) X.xe s
theorem Au{α:Type}{t:Sem α}{Q Q':α->Shared->Prop}{M:Model}{A:Around}{E:Value->Shared->Prop}{s:Shared}(h:wpAny M A t Q E s)(hQ:∀a s,Q a s->Q' a s):wpAny M A t Q' E s:=wpAny_mono h hQ λ_ _ x=>x
section
variable{X:Cx}
def Vj(i:Nat):TE:=λσ H Q=>∃v,σ[i]? = some (some v)/\Q v H
def tC(v:V):TE:=λ_ H Q=>Q v H
theorem Nx{i:Nat}{x:Str}{pos:Pos}(hN:X.N[i]? = some x)(hv:Ia X.env.scope x)(hd:(x==("__debug__" : Str))=false:=by decide)(C3:(x==("__classdict__" : Str))=false:=by decide):PE X (.Name x pos) (Vj i):=by
 intro AH s σ H Q I h;obtain⟨v,e,h⟩:=h;obtain⟨m,hn,hl⟩:=I.loc;obtain⟨u,r,l⟩:=hl i x v hN e hv;have fin:EP X AH σ Q u s:=⟨v,H,I,r,h⟩;rcases l with⟨hk,hm⟩|⟨hk,c,hc,Pc⟩
 ·exact wpAny_Name (wpAny_loadName_local I.ok.kind hk hn hm fin) hd
 ·rcases hk with hk|hk
  ·exact wpAny_Name (wpAny_loadName_cell I.ok.kind hk hc Pc fin) hd
  ·exact wpAny_Name (wpAny_loadName_free I.ok.kind hk hc Pc fin C3) hd
theorem af{i j pos}:PE X (.Constant (.int i) j pos) (tC (.int i)):=λ_ _ _ H _ I h=>wpAny_Constant_int ⟨.int i,H,I.tok _,⟨_,rfl⟩,h⟩
theorem qG{b j pos}:PE X (.Constant (.bool b) j pos) (tC (.bl b)):=λ_ _ _ H _ I h=>Constant_bool ⟨.bl b,H,I,rfl,h⟩
theorem qU{x j pos}:PE X (.Constant (.str x) j pos) (tC (.str x)):=λ_ _ _ H _ I h=>Calls.Constant_str ⟨.str x,H,I.tok _,⟨_,rfl⟩,h⟩
def Gl(X:Cx)(x:Str):Prop:=X.env.kindOf x=some .globalImplicit
theorem ZZ{E:Value->Shared->Prop}{AH:List (Addr×Obj)}{s:Shared}{σ:St}{H:Hp}{x:Str}{u:Value}{pos:Pos}{Q:Value->Shared->Prop}(I:Inv X AH σ H s)(hg:Gl X x)(hm:X.mg x=some u)(h:Q u s) (hd:(x==("__debug__" : Str))=false:=by decide):wpAny (model X.prog X.w) X.A (eval (.Name x pos) X.env) Q E s:=
 Calls.Name_function_global I.ok.kind hg (Calls.loadGlobal_global (by rw[I.ok.glob];exact I.mod.glob.keeps I.bk) hm h) hd
theorem Nh{E:Value->Shared->Prop}{AH:List (Addr×Obj)}{s:Shared}{σ:St}{H:Hp}{x:Str}{u:Value}{pos:Pos}{Q:Value->Shared->Prop}(I:Inv X AH σ H s)(hg:Gl X x)(hm:X.mg x=none)(hv:bootBuiltins x=some u)(h:Q u s) (hn:x≠"__name__":=by decide) (hd:(x==("__debug__" : Str))=false:=by decide):wpAny (model X.prog X.w) X.A (eval (.Name x pos) X.env) Q E s:=by
 obtain⟨mb,h1,h2⟩:=I.mod.blt;exact Calls.Name_function_global I.ok.kind hg (Calls.loadGlobal_builtin (by rw[I.ok.glob];exact I.mod.glob.keeps I.bk) hm (by rw[I.ok.blt];exact h1.keeps I.bk) ((h2 x hn).trans hv) h) hd
theorem ae{x:Str}{v:V}{u:Value}{pos:Pos}(hg:Gl X x)(hm:X.mg x=some u)(r:RelV v u)(hd:(x==("__debug__" : Str))=false:=by decide):PE X (.Name x pos) (tC v):=
 λ_ _ _ H _ I h=>ZZ I hg hm ⟨v,H,I,r,h⟩ hd
theorem aY{x:Str}{v:V}{u:Value}{pos:Pos}(hg:Gl X x)(hm:X.mg x=none)(hv:bootBuiltins x=some u)(r:RelV v u)(hn:x≠"__name__":=by decide)(hd:(x==("__debug__" : Str))=false:=by decide):PE X (.Name x pos) (tC v):=
 λ_ _ _ H _ I h=>Nh I hg hm hv ⟨v,H,I,r,h⟩ hn hd
variable{a b:Expr}{ta tb:TE}{pos:Pos}
def tB(t:TE):TT:=λσ H Q=>t σ H λx H1=>∃c,x=.bl c/\Q c H1
theorem rD{e:Expr}{t:TE}(h:PE X e t)(he:∀Ji,isTrue e X.env Ji=(do let v<-Ji;standAt e.pos;holding [v] (truthy v)):=by intro _;rfl):PT X e (tB t):=by
 intro AH s σ H Q I hw;refine isTrue_plain (Au (h AH s σ H _ I hw) λv s1 ⟨x,H1,I1,r1,q1⟩=>?_) (he _);obtain⟨d,rfl,q⟩:=q1;cases r1;exact wpAny_truthy_bool ⟨H1,I1,q⟩
variable{tA Q6:TT}{Bh:List Expr}
def cZ(t u:TT):TT:=λσ H Q=>t σ H λc H1=>if c=true then u σ H1 Q else Q false H1
def cw(t u:TT):TT:=λσ H Q=>t σ H λc H1=>if c=true then Q true H1 else u σ H1 Q
def t9(t:TT):TT:=λσ H Q=>t σ H λc H1=>Q (!c) H1
theorem rL(ha:PT X a tA):PW X (.BoolOp .And [a] pos) tA:=by
 intro wh AH s σ H Q I h;refine isTrue_and (Au (ha AH s σ H Q I h) λc s1 e=>?_);cases c with
 |true=>exact isTrue_and_nil e
 |false=>exact e
theorem rN(ha:PT X a tA):PW X (.BoolOp .Or [a] pos) tA:=by
 intro wh AH s σ H Q I h;refine isTrue_or (Au (ha AH s σ H Q I h) λc s1 e=>?_);cases c with
 |false=>exact isTrue_or_nil e
 |true=>exact e
theorem rK(ha:PT X a tA)(hb:PW X (.BoolOp .And (b::Bh) pos) Q6):PW X (.BoolOp .And (a::b::Bh) pos) (cZ tA Q6):=by
 intro wh AH s σ H Q I h;refine isTrue_and (Au (ha AH s σ H _ I h) λc s1 ⟨H1,I1,q1⟩=>?_);cases c with
 |true=>exact hb wh AH s1 σ H1 Q I1 q1
 |false=>exact⟨H1,I1,q1⟩
theorem rM(ha:PT X a tA)(hb:PW X (.BoolOp .Or (b::Bh) pos) Q6):PW X (.BoolOp .Or (a::b::Bh) pos) (cw tA Q6):=by
 intro wh AH s σ H Q I h;refine isTrue_or (Au (ha AH s σ H _ I h) λc s1 ⟨H1,I1,q1⟩=>?_);cases c with
 |true=>exact⟨H1,I1,q1⟩
 |false=>exact hb wh AH s1 σ H1 Q I1 q1
theorem rC(ha:PT X a tA):PT X (.UnaryOp .Not a pos) (t9 tA):=by
 intro AH s σ H Q I h;exact isTrue_not (ha AH s σ H (λc H1=>Q (!c) H1) I h)
def tT(ta tb:TE):TE:=λσ H Q=>ta σ H λx H1=>∃c,x=.bl c/\if c=true then tb σ H1 Q else Q (.bl false) H1
def uD(ta tb:TE):TE:=λσ H Q=>ta σ H λx H1=>∃c,x=.bl c/\if c=true then Q (.bl true) H1 else tb σ H1 Q
def uC(ta:TE):TE:=λσ H Q=>ta σ H λx H1=>∃c,x=.bl c/\Q (.bl (!c)) H1
theorem qP{op}{t:TE}(h:PE X a t):PE X (.BoolOp op [a] pos) t:=λAH s σ H Q I hw=>BoolOp_one (h AH s σ H Q I hw)
theorem qF(ha:PE X a ta)(hb:PE X (.BoolOp .And (b::Bh) pos) tb):PE X (.BoolOp .And (a::b::Bh) pos) (tT ta tb):=by
 intro AH s σ H Q I h;refine BoolOp_and (Au (ha AH s σ H _ I h) λv s1 ⟨x,H1,I1,r1,q1⟩=>?_);obtain⟨c,rfl,q1⟩:=q1;cases r1;refine wpAny_truthy_bool ?_;cases c with
 |true=>exact hb AH s1 σ H1 Q I1 q1
 |false=>exact⟨.bl false,H1,I1,rfl,q1⟩
theorem qR(ha:PE X a ta)(hb:PE X (.BoolOp .Or (b::Bh) pos) tb):PE X (.BoolOp .Or (a::b::Bh) pos) (uD ta tb):=by
 intro AH s σ H Q I h;refine BoolOp_or (Au (ha AH s σ H _ I h) λv s1 ⟨x,H1,I1,r1,q1⟩=>?_);obtain⟨c,rfl,q1⟩:=q1;cases r1;refine wpAny_truthy_bool ?_;cases c with
 |false=>exact hb AH s1 σ H1 Q I1 q1
 |true=>exact⟨.bl true,H1,I1,rfl,q1⟩
theorem qO(ha:PE X a ta):PE X (.UnaryOp .Not a pos) (uC ta):=by
 intro AH s σ H Q I h;refine UnaryOp_ (Au (ha AH s σ H _ I h) λv s1 ⟨x,H1,I1,r1,q1⟩=>?_);obtain⟨c,rfl,q1⟩:=q1;cases r1;exact not_of (wpAny_truthy_bool ⟨.bl (!c),H1,I1,rfl,q1⟩)
def tZ(t:TT)(ta tb:TE):TE:=λσ H Q=>t σ H λc H1=>if c=true then ta σ H1 Q else tb σ H1 Q
theorem qL{c:Expr}(hc:PT X c tA)(ha:PE X a ta)(hb:PE X b tb):PE X (.IfExp c a b pos) (tZ tA ta tb):=by
 intro AH s σ H Q I h;refine wpAny_IfExp (Au (hc AH s σ H _ I h) λd s1 ⟨H1,I1,q1⟩=>?_);cases d with
 |true=>exact ha AH s1 σ H1 Q I1 q1
 |false=>exact hb AH s1 σ H1 Q I1 q1
end
def DH(K:PySem.W.Frag)(H:Hp)(a:Addr)(xs:List V):Prop:=
 Rd H a (.lst xs)\/∃(o:Obj)(its:Array Value)(n:Nat),K.lookup a=some o/\o.cls=.type "list"/\o.dict=none/\o.data=.seq its n/\its.size<=sizeLine/\BA xs its.toList
def DV(K:PySem.W.Frag)(H:Hp)(a:Addr)(xs:List V):Prop:=
 Rd H a (.tup xs)\/∃(o:Obj)(its:Array Value)(n:Nat),K.lookup a=some o/\o.cls=.type "tuple"/\o.data=.seq its n/\its.size<=sizeLine/\BA xs its.toList
def fN:Value->Option V
 |.none=>some .Bq
 |.bool b=>some (.bl b)
 |.int i _=>some (.int i)
 |.str x _=>some (.str x)
 |.bytes b _=>some (.R6 b)
 |.float b _=>some (.LZ b)
 |.ref a=>some (.ref a)
 |.type n=>some (.ty n)
 |_=>none
theorem RelV.abs{x:V}{u:Value}(r:RelV x u):fN u=some x:=by
 cases x with
 |Bq=>cases r;rfl
 |bl _=>cases r;rfl
 |int _=>obtain⟨t,rfl⟩:=r;rfl
 |str _=>obtain⟨t,rfl⟩:=r;rfl
 |R6 _=>obtain⟨t,rfl⟩:=r;rfl
 |LZ _=>obtain⟨t,rfl⟩:=r;rfl
 |ref _=>cases r;rfl
 |ty _=>cases r;rfl
theorem RelV.inj{x y:V}{u:Value}(r:RelV x u)(q:RelV y u):x=y:=Option.some.inj (r.abs.symm.trans q.abs)
theorem BA.inj:∀{xs ys:List V}{us:List Value},BA xs us->BA ys us->xs=ys
 |_,_,_,.nil,.nil=>rfl
 |_,_,_,.cons r t,.cons r' t'=>by rw[r.inj r',BA.inj t t']
section
variable{X:Cx}{AH:List (Addr×Obj)}{σ:St}{H:Hp}{s:Shared}{a:Addr}{xs ys:List V}
theorem Inv.list(I:Inv X AH σ H s)(h:DH X.K H a xs):∃its:List Value,BA xs its/\PlainL s.heap a its.toArray/\xs.length<=sizeLine:=by
 rcases h with h|⟨o,its,n,hk,hc,hd,hs,hz,r⟩
 ·obtain⟨z,its,n,r,e⟩:=h.ok I.A2;exact⟨its,r,⟨_,n,e,rfl,rfl,rfl⟩,z⟩
 ·refine⟨its.toList,r,⟨o,n,I.Bl a o hk,hc,hd,by simpa using hs⟩,?_⟩;have e:=r.length;simp only[Array.length_toList]at e;omega
theorem Inv.tuple(I:Inv X AH σ H s)(h:DV X.K H a xs):∃its:List Value,BA xs its/\IsTup s.heap a its.toArray/\xs.length<=sizeLine:=by
 rcases h with h|⟨o,its,n,hk,hc,hs,hz,r⟩
 ·obtain⟨z,its,r,p⟩:=h.ok I.A2;exact⟨its,r,p,z⟩
 ·refine⟨its.toList,r,⟨o,I.Bl a o hk,hc,n,by simpa using hs⟩,?_⟩;have e:=r.length;simp only[Array.length_toList]at e;omega
theorem Inv.nN(I:Inv X AH σ H s)(h:DH X.K H a xs)(h':DH X.K H a ys):xs=ys:=by
 obtain⟨its,r,⟨o,n,e,_,_,d⟩,_⟩:=I.list h;obtain⟨its',r',⟨o',n',e',_,_,d'⟩,_⟩:=I.list h';rw[e]at e';cases e';rw[d]at d';injection d' with d1 _
 have:its=its':=by simpa using congrArg Array.toList d1
 subst this;exact r.inj r'
end
abbrev Cx.Hj(X:Cx)(E:Value->Shared->Prop):Cx:={ X with xe:=E }
abbrev Cx.Kc(X:Cx):Cx:=X.Hj λ_ _=>False
theorem Cx.Ok.Hj{X:Cx}(ok:X.Ok)(E:Value->Shared->Prop):(X.Hj E).Ok:=
 ⟨ok.mod,ok.kind,ok.glob,ok.blt,ok.above,ok.inj,ok.has,ok.Mi,ok.hd,ok.frames,ok.OH,ok.O6,ok.bs,ok.Ih,ok.Nq,ok.Mv,ok.Ge,ok.Lb⟩
theorem Cx.Ok.Jh{X:Cx}{E:Value->Shared->Prop}(ok:(X.Hj E).Ok):X.Ok:=
 ⟨ok.mod,ok.kind,ok.glob,ok.blt,ok.above,ok.inj,ok.has,ok.Mi,ok.hd,ok.frames,ok.OH,ok.O6,ok.bs,ok.Ih,ok.Nq,ok.Mv,ok.Ge,ok.Lb⟩
section
variable{X:Cx}{AH:List (Addr×Obj)}{σ:St}{H:Hp}{s:Shared}{E:Value->Shared->Prop}
theorem Inv.Hj(I:Inv X AH σ H s)(E:Value->Shared->Prop):Inv (X.Hj E) AH σ H s:=⟨I.ok.Hj E,I.os,I.bare,I.base,I.loc,I.cell,I.free,I.HQ,I.pin,I.A2,I.len⟩
theorem Inv.Jh(I:Inv (X.Hj E) AH σ H s):Inv X AH σ H s:=⟨I.ok.Jh,I.os,I.bare,I.base,I.loc,I.cell,I.free,I.HQ,I.pin,I.A2,I.len⟩
theorem SP.Jh{D:Ends}{f:Flow}{s':Shared}(h:SP (X.Hj E) AH D f s'):SP X AH D f s':=by
 cases f with
 |next=>obtain⟨Aq,H',I,q⟩:=h;exact⟨Aq,H',I.Jh,q⟩
 |brk=>obtain⟨Aq,H',I,q⟩:=h;exact⟨Aq,H',I.Jh,q⟩
 |cont=>obtain⟨Aq,H',I,q⟩:=h;exact⟨Aq,H',I.Jh,q⟩
 |ret u=>obtain⟨v,Aq,H',I,r,q⟩:=h;exact⟨v,Aq,H',I.Jh,r,q⟩
theorem D4.Kc{st:List Stmt}{t:TS}(h:D4 X.Kc st t):D4 X st t:=λAH s σ H D I hw=>
 wpAny_mono (h AH s σ H D (I.Hj _) hw) (λ_ _ q=>q.Jh) λ_ _ z=>False.elim z
end
section
variable{X:Cx}{st:Stmt}{Bh:List Stmt}{t u:TS}{e:Expr}{te:TE}{pos:Pos}
def t6:TS:=λD σ H=>D.nx σ H
def uJ(t u:TS):TS:=λD σ H=>t { D with nx:=u D } σ H
theorem qz:D4 X [] t6:=λ_ _ σ H _ I h=>wpAny_execs_nil ⟨σ,H,I,h⟩
theorem qy(h1:PS X st t)(h2:D4 X Bh u):D4 X (st::Bh) (uJ t u):=by
 intro AH s σ H D I h;refine wpAny_execs_cons (Au (h1 AH s σ H { D with nx:=u D } I h) λf s1 q=>?_);cases f with
 |next=>
  obtain⟨Aq,H',I',q⟩:=q;exact h2 AH s1 Aq H' D I' q
 |ret v=>exact q
 |brk=>exact q
 |cont=>exact q
theorem q8(h1:PS X st t):D4 X [st] t:=by
 intro AH s σ H D I h;refine wpAny_execs_cons (Au (h1 AH s σ H D I h) λf s1 q=>?_);cases f with
 |next=>exact wpAny_execs_nil q
 |ret v=>exact q
 |brk=>exact q
 |cont=>exact q
theorem Inv.quiet{AH:List (Addr×Obj)}{σ:St}{H:Hp}{s:Shared}(I:Inv X AH σ H s):interactive X.env=false:=by simp[interactive,I.ok.kind]
def cv(te:TE):TS:=λD σ H=>te σ H λ_ H1=>D.nx σ H1
theorem UZ(he:PE X e te)(hs:swapsWith e none pos.line X.env=pure false:=by rfl):PS X (.Expr e pos) (cv te):=by
 intro AH s σ H D I h;exact wpAny_Expr_any (Au (he AH s σ H _ I h) λv s1 ⟨x,H1,I1,r1,q1⟩=>⟨σ,H1,I1,q1⟩) I.quiet hs
def uH(te:TE):TS:=λD σ H=>te σ H D.rt
theorem bC(he:PE X e te):PS X (.Return (some e) pos) (uH te):=by
 intro AH s σ H D I h;exact wpAny_Return_some (Au (he AH s σ H _ I h) λv s1 ⟨x,H1,I1,r1,q1⟩=>⟨x,σ,H1,I1,r1,q1⟩)
def tf(c:TT)(t u:TS):TS:=λD σ H=>c σ H λb H1=>if b=true then t D σ H1 else u D σ H1
theorem qu{c:Expr}{a b:List Stmt}{tc:TT}(hc:PT X c tc)(ha:D4 X a t)(hb:D4 X b u):PS X (.If c a b pos) (tf tc t u):=by
 intro AH s σ H D I h;refine wpAny_If (Au (hc AH s σ H _ I h) λd s1 ⟨H1,I1,q1⟩=>?_);cases d with
 |true=>exact ha AH s1 σ H1 D I1 q1
 |false=>exact hb AH s1 σ H1 D I1 q1
def tx:TS:=λ_ _ _=>False
theorem qv:PS X st tx:=λ_ _ _ _ _ _ h=>h.elim
end
abbrev TG:=V->St->Hp->(St->Hp->Prop)->Prop
abbrev Ho:=List V->St->Hp->(St->Hp->Prop)->Prop
def PG(X:Cx)(MF:Expr)(t:TG):Prop:=
 ∀(AH:List (Addr×Obj))(s:Shared)(σ:St)(H:Hp)(v:V)(u:Value)(Q:St->Hp->Prop),Inv X AH σ H s->RelV v u->t v σ H Q->wpAny (model X.prog X.w) X.A (assign MF X.env u) (λ_ s'=>∃Aq H',Inv X AH Aq H' s'/\Q Aq H') X.xe s
def HG(X:Cx)(ts:List Expr)(t:Ho):Prop:=
 ∀(AH:List (Addr×Obj))(s:Shared)(σ:St)(H:Hp)(vs:List V)(us:List Value)(Q:St->Hp->Prop),Inv X AH σ H s->BA vs us->t vs σ H Q->wpAny (model X.prog X.w) X.A (assignInOrder ((assignEach ts X.env).map (·.2)) us) (λ_ s'=>∃Aq H',Inv X AH Aq H' s'/\Q Aq H') X.xe s
section
variable{X:Cx}{pos:Pos}
def M6(i:Nat):TG:=λv σ H Q=>Q (σ.set i (some v)) H
theorem qX{i:Nat}{x:Str}(hN:X.N.Nodup)(hi:X.N[i]? = some x)(hx:Loc X.env.scope x)(hf:X.fn x=true\/X.env.scope.names.lookup x=some .local:=by first|exact .inl rfl|exact .inr rfl|assumption):PG X (.Name x pos) (M6 i):=by
 intro AH s σ H v u Q I r h;exact wpAny_assign_Name (Q0 I hN hi hx r (λs' I'=>⟨_,H,I',h⟩) hf)
def jr:Ho:=λvs σ H Q=>vs=[]/\Q σ H
def jo(t:TG)(u:Ho):Ho:=λvs σ H Q=>∃v r,vs=v::r/\t v σ H λAq H'=>u r Aq H' Q
theorem qa:HG X [] jr:=by
 intro AH s σ H vs us Q I r h;obtain⟨e,h⟩:=h;subst e;cases r;exact assignInOrder_nil ⟨σ,H,I,h⟩
theorem qZ{e:Expr}{es:List Expr}{t:TG}{u:Ho}(h1:PG X e t)(h2:HG X es u) (hs:(assignEach (e::es) X.env).map (·.2)=assign e X.env::(assignEach es X.env).map (·.2):=by rfl):HG X (e::es) (jo t u):=by
 intro AH s σ H vs us Q I r h;obtain⟨v,vr,e1,h⟩:=h;subst e1;cases r with
 |cons r rr=>
  rw[hs];refine assignInOrder_cons (Au (h1 AH s σ H _ _ _ I r h) λ_ s1 ⟨Jj,H1,I1,q1⟩=>?_);exact h2 AH s1 Jj H1 _ _ Q I1 rr q1
def jt(K:PySem.W.Frag)(n:Nat)(t:Ho):TG:=λv σ H Q=>∃a xs,v=.ref a/\DV K H a xs/\xs.length=n/\t xs σ H Q
theorem qY{es:List Expr}{k:Nat}{t:Ho}{n:Nat}(hc:X.calm=true)(h:HG X es t) (hn:(assignEach es X.env).length=n:=by rfl) (F6:(assignEach es X.env).findIdx? (·.1)=none:=by rfl):PG X (.Tuple es k pos) (jt X.K n t):=by
 intro AH s σ H v u Q I r hw;obtain⟨a,xs,e1,hq,hl,hw⟩:=hw;subst e1;cases r;obtain⟨its,rv,ht,hz⟩:=I.tuple hq;refine assign_Tuple_tuple (I.ok.hd hc) ht (by simp[hn,<-hl,rv.length]) F6 λh' hx=>?_;have I1:Inv X AH σ H { s with heap:=h' }:=I.kept (t':=s.toks) λb o e=>hx b o (Nat.ne_of_lt (Heap.lt_size e)) e;exact h AH _ σ H xs _ Q I1 (by simpa using rv) hw
def Q5(te:TE)(g:TG):TS:=λD σ H=>te σ H λx H1=>g x σ H1 D.nx
theorem bD{i:Nat}{x:Str}{e:Expr}{te:TE}{pos':Pos}(hN:X.N.Nodup)(hi:X.N[i]? = some x)(hx:Loc X.env.scope x)(he:PE X e te)(hs:swapsWith e (some (.Name x pos')) pos.line X.env=pure false:=by rfl)(hf:X.fn x=true\/X.env.scope.names.lookup x=some .local:=by first|exact .inl rfl|exact .inr rfl|assumption) : PS X (.Assign [.Name x pos'] e pos) (Q5 te (M6 i)):=by
 intro AH s σ H D I h;refine wpAny_Assign_Name (Au (he AH s σ H _ I h) λv s1 ⟨y,H1,I1,r1,q1⟩=>?_) hs;exact Q0 I1 hN hi hx r1 (λs2 I2=>⟨_,H1,I2,q1⟩) hf
def uE(i j:Nat)(ta:TA):TS:=λD σ H=>ta σ H λvs H1=>∃v w,vs=[v,w]/\D.nx ((σ.set i (some v)).set j (some w)) H1
theorem qw{i j:Nat}{x y:Str}{a b:Expr}{ta:TA}{px py pt:Pos}{kt k2 Kg}(hc:X.calm=true)(hN:X.N.Nodup)(hi:X.N[i]? = some x)(hj:X.N[j]? = some y)(Cg:i≠j) (hx:X.env.scope.names.lookup x=some .local) (hy:X.env.scope.names.lookup y=some .local) (ha:PA X [a,b] ta) (hw:swappedStores [.Tuple [.Name x px,.Name y py] kt pt] (.Tuple [a,b] k2 Kg) X.env=pure (some [x,y])) (hs:swapsWithSole [.Tuple [.Name x px,.Name y py] kt pt] (.Tuple [a,b] k2 Kg) pos.line X.env=pure false:=by rfl) : PS X (.Assign [.Tuple [.Name x px,.Name y py] kt pt] (.Tuple [a,b] k2 Kg) pos) (uE i j ta):=by
 intro AH s σ H D I h;rw[exec_Assign_arm];refine wpAny_bind (wpAny_standAt ?_);rw[hs];refine wpAny_bind (wpAny_pure ?_);rw[if_neg (by decide)];refine wpAny_bind (Tuple_ (Au (ha _ AH s σ H _ I h) λus s1 ⟨vs,H1,I1,r1,q1⟩=>?_));obtain⟨v,w,e1,q1⟩:=q1;subst e1;obtain⟨u1,u2,rfl,rv,Fe⟩:∃u1 u2,us=[u1,u2]/\RelV v u1/\RelV w u2:=by
  cases r1 with
  |cons p q=>
   cases q with
   |cons p' q'=>
    cases q';exact⟨_,_,rfl,p,p'⟩
 refine wpAny_newObj_type ?_ (by show 2<=sizeLine;decide);have I2:Inv X AH σ H1 { s1 with heap:=s1.heap.push { cls:=.type "tuple",data:=.seq [u1,u2].toArray } }:=I1.kept (t':=s1.toks) λb o e=>Heap.get?_push_of_some _ e;rw[hw];refine wpAny_bind (wpAny_pure ?_);show wpAny (model X.prog X.w) X.A (do rule "assign.swapped-stores";let items<-unpackItems (.ref s1.heap.objs.size) 2 none;assignInOrder [λv=>bindName X.env y v,λv=>bindName X.env x v] items.reverse;pure Flow.next) _ _ _;refine wpAny_bind (wpAny_rule (wpAny_bind (unpackItems_tuple (items:=#[u1,u2]) (I.ok.hd hc) (IsTup.new s1.heap _) λh' JI=>?_)));have I3:=I2.kept (h':=h') (t':=s1.toks) λb o e=>JI b o (Nat.ne_of_lt (Heap.lt_size e)) e;show wpAny _ _ (assignInOrder [λv=>bindName X.env y v,λv=>bindName X.env x v] [u2,u1] >>= λ_=>pure Flow.next) _ _ _;refine wpAny_bind (assignInOrder_cons (wpAny_bindName (Q0 I3 hN hj (.inl hy) Fe (λs2 I4=>?_) (.inr hy))));refine assignInOrder_cons (wpAny_bindName (Q0 I4 hN hi (.inl hx) rv (λs3 I5=>assignInOrder_nil (wpAny_pure ?_)) (.inr hx)));rw[List.set_comm _ _ (Ne.symm Cg)]at I5;exact⟨_,H1,I5,q1⟩
end
section
variable{X:Cx}{pos:Pos}
end
structure It where
 go:Nat->Hp->Prop
 RF:Nat->Hp->V->Hp->Prop
 stop:Nat->Hp->Prop
def GQ(X:Cx)(AH:List (Addr×Obj))(H:Hp)(b:Addr):Prop:=
 H b=none/\b≠X.env.locals/\b∉X.fs/\(b∈X.ex\/X.DM.heap.objs.size<=b)/\(∀x c,X.env.cells.lookup x=some c->c≠b)/\∀p∈X.pn++AH,p.1≠b
theorem Inv.S8{X:Cx}{AH:List (Addr×Obj)}{σ:St}{H H':Hp}{s:Shared}{b:Addr}(I:Inv X AH σ H s)(hb:s.heap.objs.size<=b)(hn:H' b=none):GQ X AH H' b:=by
 refine⟨hn,Nat.ne_of_gt (Nat.lt_of_lt_of_le I.lt hb),I.oA hb,.inr (Nat.le_trans I.sz hb),λx c e z=>?_,λp hp z=>?_⟩
 ·obtain⟨v,q⟩:=I.cell x c e;exact absurd (Nat.lt_of_lt_of_le q.lt (by rw[z];exact hb)) (Nat.lt_irrefl _)
 ·exact absurd (Nat.lt_of_lt_of_le (Heap.lt_size (I.pin p hp).1) (by rw[z];exact hb)) (Nat.lt_irrefl _)
structure Turn(P:Program)(w:World)(K:PySem.W.Frag)(tg:Expr)(J:It)(fp:List Addr)(it:Addr)(tn:Nat->Heap->Prop):Prop where
 mem:it∈fp
 obj:∀i h,tn i h->∀b∈fp,∃o,h.get? b=some o/\∀v,o.data≠.cell v
 keep:∀i h h',tn i h->(∀b∈fp,∀o,h.get? b=some o->h'.get? b=some o)->tn i h'
 item:∀(X:Cx),X.prog=P->X.w=w->X.K=K->X.calm=true->∀(i:Nat)(AH:List (Addr×Obj))(s:Shared)(σ:St)(H:Hp)(E:Value->Shared->Prop),Inv X AH σ H s->(∀b∈fp,GQ X AH H b)->tn i s.heap->J.go i H->wpAny (model P w) X.A (pyNext (.ref it)) (λr s1=>∃u,r=some u/\
   wpAny (model P w) X.A (letOwnedTupleGo tg (.ref it) u) (λ_ s2=>∃x H',Inv X AH σ H' s2/\RelV x u/\J.RF i H x H'/\tn (i+1) s2.heap/\∀b∈fp,H' b=none) E s1) E s
 done:∀(X:Cx),X.prog=P->X.w=w->X.K=K->X.calm=true->∀(i:Nat)(AH:List (Addr×Obj))(s:Shared)(σ:St)(H:Hp)(E:Value->Shared->Prop),Inv X AH σ H s->(∀b∈fp,GQ X AH H b)->tn i s.heap->J.stop i H->wpAny (model P w) X.A (pyNext (.ref it)) (λr s1=>r=none/\Inv X AH σ H s1) E s
 self:∀(A:Around)(i:Nat)(s:Shared)(Q:Value->Shared->Prop)(E:Value->Shared->Prop),tn i s.heap->Q (.ref it) s->wpAny (model P w) A (pyIter (.ref it)) Q E s
abbrev TI:=St->Hp->(It->Hp->Prop)->Prop
def WI(X:Cx)(AH:List (Addr×Obj))(σ:St)(tg:Expr)(R:It->Hp->Prop)(Px:Value)(s2:Shared):Prop:=
 ∃(it:Addr)(fp:List Addr)(tn:Nat->Heap->Prop)(J:It)(H':Hp),Px=.ref it/\Inv X AH σ H' s2/\Turn X.prog X.w X.K tg J fp it tn/\tn 0 s2.heap/\(∀b∈fp,GQ X AH H' b)/\R J H'
def PI(X:Cx)(tg iter:Expr)(wi:TI):Prop:=
 ∀(AH:List (Addr×Obj))(s:Shared)(σ:St)(H:Hp)(R:It->Hp->Prop),Inv X AH σ H s->wi σ H R->wpAny (model X.prog X.w) X.A (eval iter X.env) (λv s1=>wpAny (model X.prog X.w) X.A (pyIter v) (WI X AH σ tg R) X.xe s1) X.xe s
theorem YW{M:Model}{A:Around}{E:Value->Shared->Prop}{s:Shared}{tg:Expr}{it:Addr}{u:Value}{o:Obj}{n:String}{vs:Array Value}{Q:Unit->Shared->Prop}(ho:s.heap.get? it=some o)(hc:o.cls=.type n)(hd:o.data=.fields vs) (hn:["enumerate","zip","dict_itemiterator","dict_reverseitemiterator","odict_iterator","itertools.zip_longest","itertools.pairwise"].contains n=false) (hQ:Q () s):wpAny M A (letOwnedTupleGo tg (.ref it) u) Q E s:=by
 unfold letOwnedTupleGo;cases tg<;>first
  |exact wpAny_pure hQ
  |(cases u<;>first
   |exact wpAny_pure hQ
   |(
    refine wpAny_bind (wpAny_load ho ?_);rw[hc,hd];show wpAny M A (if(["enumerate","zip","dict_itemiterator","dict_reverseitemiterator","odict_iterator","itertools.zip_longest","itertools.pairwise"].contains n&&vs[0]? == some (rawInt _))=true then _ else _) Q E s;rw[if_neg (by intro h;rw[hn,Bool.false_and]at h;cases h)];exact wpAny_pure hQ))
def RP(K:PySem.W.Frag)(a:Addr):It:=
 ⟨λi H=>∃xs x,DH K H a xs/\xs[i]? = some x,λi H x H'=>H'=H/\∀xs,DH K H a xs->xs[i]? = some x,λi H=>∃xs,DH K H a xs/\xs.length<=i⟩
def MY(lo:Int)(n:Nat):It:=⟨λi _=>i<n,λi H x H'=>H'=H/\x=.int (lo+i),λi _=>n<=i⟩
theorem uu{P:Program}{w:World}{K:PySem.W.Frag}{tg:Expr}(a it:Addr):Turn P w K tg (RP K a) [it] it (λi h=>h.IsListIter it a i) where
 mem:=by simp
 obj:=λi h st b hb=>by
  have e:b=it:=by simpa using hb
  subst e;obtain⟨o,e,c,d⟩:=st;exact⟨o,e,λv z=>by rw[d]at z;cases z⟩
 keep:=λi h h' st k=>st.at λo e=>k it (by simp) o e
 item:=by
  intro X hP hw hK hc i AH s σ H E I hf st hg;subst hP hw hK;obtain⟨xs,x,hq,hx⟩:=hg;obtain⟨its,rv,p,hz⟩:=I.list hq;obtain⟨u,hu,ru⟩:=rv.get hx;obtain⟨f0,f1,f2,f3,f4,f5⟩:=hf it (by simp);refine wpAny_pyNext_list_item st p.isList (x:=u) (by simpa using hu) λh' OE sb=>?_;have I1:Inv X AH σ H { s with heap:=h' }:=I.turned (t':=s.toks) (λb o hb e=>(sb.2 b hb).trans e) f0 f1 f3 f4 f5;obtain⟨o,e,c,d⟩:=id OE;exact⟨u,rfl,YW (s:={ s with heap:=h' }) e c d (by decide) ⟨x,H,I1,ru,⟨rfl,λys hy=>by rw[I.nN hy hq];exact hx⟩,OE,λb hb=>(hf b hb).1⟩⟩
 done:=by
  intro X hP hw hK hc i AH s σ H E I hf st hg;subst hP hw hK;obtain⟨xs,hq,hx⟩:=hg;obtain⟨its,rv,p,hz⟩:=I.list hq;obtain⟨f0,f1,f2,f3,f4,f5⟩:=hf it (by simp);have hl:=rv.length;exact wpAny_pyNext_list_end (I.ok.hd hc) st p.isList (by simp;omega) λh' eb=>⟨rfl,I.turned (t':=s.toks) (λb o hb e=>eb b o hb e) f0 f1 f3 f4 f5⟩
 self:=λ_ _ _ _ _ st h=>wpAny_pyIter_listiter st h
theorem uv{P:Program}{w:World}{K:PySem.W.Frag}{tg:Expr}(it:Addr)(lo:Int)(n:Nat):Turn P w K tg (MY lo n) [it] it (λi h=>IsRangeIter h it (lo+(i:Nat)*1) ((n:Int)-(i:Nat)) 1) where
 mem:=by simp
 obj:=λi h st b hb=>by
  have e:b=it:=by simpa using hb
  subst e;exact⟨_,st,λv z=>by
   have z':Data.fields _=Data.cell v:=z;cases z'⟩
 keep:=λi h h' st k=>k it (by simp) _ st
 item:=by
  intro X hP hw hK hc i AH s σ H E I hf st hg;subst hP hw hK;obtain⟨f0,f1,f2,f3,f4,f5⟩:=hf it (by simp);have W:=Walks.range (prog:=X.prog) (w:=X.w) (I.ok.hd hc) it lo 1 n;refine W.item i s _ _ hg st λv h' tk hv OE kk=>?_;obtain⟨t,rfl⟩:=hv;have I1:Inv X AH σ H { s with heap:=h',toks:=tk }:=I.turned (λb o hb e=>kk b o (by simpa using hb) e) f0 f1 f3 f4 f5;refine⟨_,rfl,YW (s:={ s with heap:=h',toks:=tk }) (n:="range_iterator") OE rfl rfl (by decide) ⟨.int (lo+i),H,I1,⟨t,?_⟩,⟨rfl,rfl⟩,OE,λb hb=>(hf b hb).1⟩⟩;rw[Int.mul_one]
 done:=by
  intro X hP hw hK hc i AH s σ H E I hf st hg;subst hP hw hK;obtain⟨f0,f1,f2,f3,f4,f5⟩:=hf it (by simp);exact wpAny_pyNext_range_end (I.ok.hd hc) st (by have:n<=i:=hg;omega) λh' eb=>⟨rfl,I.turned (t':=s.toks) (λb o hb e=>eb b o hb e) f0 f1 f3 f4 f5⟩
 self:=λ_ _ _ _ _ st h=>wpAny_pyIter_rangeiter st h
section
variable{X:Cx}{tg:Expr}
def l9(K:PySem.W.Frag)(tl:TE):TI:=λσ H R=>tl σ H λx H1=>∃a,x=.ref a/\(∃xs,DH K H1 a xs)/\R (RP K a) H1
theorem qb{l:Expr}{tl:TE}(hl:PE X l tl):PI X tg l (l9 X.K tl):=by
 intro AH s σ H R I h;refine Au (hl AH s σ H _ I h) λv s1 ⟨x,H1,I1,r1,q1⟩=>?_;obtain⟨a,e,⟨xs,hq⟩,q⟩:=q1;subst e;cases r1;obtain⟨its,rv,p,hz⟩:=I1.list hq;refine wpAny_pyIter_list p.isList ?_;refine⟨s1.heap.objs.size,[s1.heap.objs.size],_,_,H1,rfl,I1.kept (t':=s1.toks) λb o e=>Heap.get?_push_of_some _ e,uu a _,⟨_,Heap.get?_push_size _ rfl,rfl,rfl⟩,λb hb=>?_,q⟩;have e:b=s1.heap.objs.size:=by simpa using hb
 subst e;exact I1.S8 (Nat.le_refl _) (I1.A2.fresh (Nat.le_refl _))
theorem bZ{AH:List (Addr×Obj)}{σ:St}{H:Hp}{s:Shared}{R:It->Hp->Prop}{E:Value->Shared->Prop}{lo hi:Int}{t u v:Tok}{tk:Nat}(I:Inv X AH σ H s)(h1 : -(2 ^ 62)<=lo)(h2:lo<2 ^ 62)(h3 : -(2 ^ 62)<=hi)(h4:hi<2 ^ 62) (q:R (MY lo (hi-lo).toNat) H):wpAny (model X.prog X.w) X.A (pyIter (.ref s.heap.objs.size)) (WI X AH σ tg R) E { s with heap:=s.heap.push { cls:=.type "range",data:=.fields #[.int lo t,.int hi u,.int 1 v] },toks:=tk }:=by
 refine wpAny_pyIter_range (IsRange.new ..) (small_one h1 h2 h3 h4) ?_;have I1:Inv X AH σ H { s with heap:=s.heap.push { cls:=.type "range",data:=.fields #[.int lo t,.int hi u,.int 1 v] },toks:=tk }:=I.kept λb o e=>Heap.get?_push_of_some _ e;refine⟨(s.heap.push { cls:=.type "range",data:=.fields #[.int lo t,.int hi u,.int 1 v] }).objs.size,[(s.heap.push { cls:=.type "range",data:=.fields #[.int lo t,.int hi u,.int 1 v] }).objs.size],_,_,H,rfl,I1.kept (t':=tk) λb o e=>Heap.get?_push_of_some _ e,uv _ lo (hi-lo).toNat,?_,λb hb=>?_,q⟩
 ·have e1:lo+((0:Nat):Int)*1=lo:=by simp
  have e2:(((hi-lo).toNat:Nat):Int)-((0:Nat):Int)=Builtin.Range.rangeSize lo hi 1:=by rw[rangeSize_one];split<;>omega
  show IsRangeIter _ _ (lo+((0:Nat):Int)*1) ((((hi-lo).toNat:Nat):Int)-((0:Nat):Int)) 1;rw[e1,e2];exact Heap.get?_push_size _ rfl
 ·have e:b=(s.heap.push { cls:=.type "range",data:=.fields #[.int lo t,.int hi u,.int 1 v] }).objs.size:=by simpa using hb
  subst e;exact I1.S8 (Nat.le_refl _) (I1.A2.fresh (Nat.le_refl _))
def mB(ta:TA):TI:=λσ H R=>ta σ H λvs H1=>∃j:Int,vs=[.int j]/\-(2 ^ 62)<=j/\j<2 ^ 62/\R (MY 0 j.toNat) H1
def mC(ta:TA):TI:=λσ H R=>ta σ H λvs H1=>∃i j:Int,vs=[.int i,.int j]/\(-(2 ^ 62)<=i/\i<2 ^ 62/\-(2 ^ 62)<=j/\j<2 ^ 62)/\R (MY i (j-i).toNat) H1
theorem qc{a:Expr}{ta:TA}{p pos:Pos}(hg:Gl X "range")(hm:X.mg "range" = none)(ha:PA X [a] ta)(hs:starEach [a] X.env=[(false,eval a X.env)]:=by rfl):PI X tg (.Call (.Name "range" p) [a] [] pos) (mB ta):=by
 intro AH s σ H R I h;refine Call_ (Nh I hg hm boot_range (PyProof.Rows.callWith_type1 (Au (ha pos AH s σ H _ I h) λus s1 ⟨vs,H1,I1,r1,q1⟩=>?_) hs rfl));obtain⟨j,e,q1,q2,q⟩:=q1;subst e;cases r1 with
 |cons r rr=>
  cases rr;obtain⟨t,rfl⟩:=r;exact call_range_1 (bZ I1 (by omega) (by omega) q1 q2 (by simpa using q))
theorem qd{a b:Expr}{ta:TA}{p pos:Pos}(hg:Gl X "range")(hm:X.mg "range" = none)(ha:PA X [a,b] ta)(hs:starEach [a,b] X.env=[(false,eval a X.env),(false,eval b X.env)]:=by rfl)(Pm:starEach [b] X.env=[(false,eval b X.env)]:=by rfl) : PI X tg (.Call (.Name "range" p) [a,b] [] pos) (mC ta):=by
 intro AH s σ H R I h;refine Call_ (Nh I hg hm boot_range (PyProof.Rows.callWith_type1 (Au (ha pos AH s σ H _ I h) λus s1 ⟨vs,H1,I1,r1,q1⟩=>?_) (by rw[hs,Pm]) (by rw[Pm];rfl)));obtain⟨i,j,e,⟨q1,q2,q3,q4⟩,q⟩:=q1;subst e;cases r1 with
 |cons r rr=>
  cases rr with
  |cons r' rr=>
   cases rr;obtain⟨t,rfl⟩:=r;obtain⟨t',rfl⟩:=r';exact call_range_2 (bZ I1 q1 q2 q3 q4 q)
def tY(wi:TI)(g:TG)(tb:TS):TS:=λD σ H=>wi σ H λJ H1=>∃W:Nat->Nat->St->Hp->Prop,(∃m,W 0 m σ H1)/\∀i m σ H,W i m σ H->
 (J.stop i H/\D.nx σ H)\/(J.go i H/\∃N:St->Hp->Prop,(∀Aq H',N Aq H'->∃m',m'<m/\W (i+1) m' Aq H')/\∀x H',J.RF i H x H'->g x σ H' λEy H2=>tb { D with nx:=N,ct:=N,bk:=D.nx } Ey H2)
def Ny(fp:List Addr)(h:Heap):List (Addr×Obj):=fp.filterMap λb=>(h.get? b).map λo=>(b,o)
theorem QA{fp:List Addr}{h:Heap}{b:Addr}{o:Obj}(hb:b∈fp)(e:h.get? b=some o):(b,o)∈Ny fp h:=List.mem_filterMap.mpr ⟨b,hb,by rw[e];rfl⟩
theorem oH{fp:List Addr}{h:Heap}{p:Addr×Obj}(hp:p∈Ny fp h):p.1∈fp/\h.get? p.1=some p.2:=by
 obtain⟨b,hb,e⟩:=List.mem_filterMap.mp hp;cases q:h.get? b with
 |none=>rw[q]at e;cases e
 |some o=>
  rw[q]at e;have e':(b,o)=p:=Option.some.inj e;subst e';exact⟨hb,q⟩
theorem Inv.pinned{AH:List (Addr×Obj)}{σ:St}{H:Hp}{s:Shared}{fp:List Addr}(I:Inv X AH σ H s)(hf:∀b∈fp,GQ X AH H b)(ho:∀b∈fp,∃o,s.heap.get? b=some o/\∀v,o.data≠.cell v):Inv X (AH++Ny fp s.heap) σ H s:=
 I.ai λp hp=>(List.mem_append.mp hp).elim (λz=>I.pin p (List.mem_append_right _ z)) λz=>by
  obtain⟨hb,e⟩:=oH z;obtain⟨f0,f1,f2,_⟩:=hf p.1 hb;obtain⟨o,e',d⟩:=ho p.1 hb;rw[e]at e';cases e';exact⟨e,f0,f1,f2,d⟩
theorem Inv.RC{AH pl:List (Addr×Obj)}{σ:St}{H:Hp}{s:Shared}(I:Inv X (AH++pl) σ H s):Inv X AH σ H s:=I.ai λp hp=>I.pin p (List.mem_append_right _ (List.mem_append_left _ hp))
theorem qt{iter:Expr}{body:List Stmt}{wi:TI}{g:TG}{tb:TS}{pos:Pos}(hp:PassesOwn (model X.prog X.w) X.A X.env X.xe)(hc:X.calm=true)(hi:PI X tg iter wi)(hg:PG X tg g)(hb:D4 X body tb) (hs:∀x,foldedSetIterable iter X.env x=pure x:=by intro _;rfl):PS X (.For tg iter body [] pos) (tY wi g tb):=by
 intro AH s σ H D I h;refine wpAny_For (Au (hi AH s σ H _ I h) λv s1 h1=>Au h1 λPx s2 h2=>?_) hs;obtain⟨it,fp,tn,J,H2,e,I2,T,Jb,f2,W,⟨m0,w0⟩,turn⟩:=h2;subst e;have VW:∀{H':Hp},(∀b∈fp,H' b=none)->∀b∈fp,GQ X AH H' b:=λhn b hb=>⟨hn b hb,(f2 b hb).2⟩;refine codeAny_forLoop_any (λn s'=>∃i Aq H',Inv X AH Aq H' s'/\tn i s'.heap/\(∀b∈fp,H' b=none)/\W i n Aq H') ?_ m0 ⟨0,σ,H2,I2,Jb,λb hb=>(f2 b hb).1,w0⟩;rintro n s3 ⟨i,Hk,H3,I3,FG,M5,w3⟩;rcases turn i n Hk H3 w3 with⟨stop,qn⟩|⟨go,N,hN,step⟩
 ·refine wpAny_passesOwn hp (Au (T.done X rfl rfl rfl hc i AH s3 Hk H3 X.xe I3 (VW M5) FG stop) λr s4 ⟨hr,I4⟩=>?_);subst hr;exact wpAny_execs_nil ⟨Hk,H3,I4,qn⟩
 ·refine wpAny_passesOwn hp (Au (T.item X rfl rfl rfl hc i AH s3 Hk H3 X.xe I3 (VW M5) FG go) λr s4 ⟨u,hr,h4⟩=>?_);subst hr;refine wpAny_passesOwn hp (Au h4 λ_ s5 ⟨x,H5,I5,r5,y5,GK,S9⟩=>?_);have RM:=I5.pinned (VW S9) (T.obj _ _ GK);refine wpAny_passesOwn hp (Au (hg _ s5 Hk H5 x u _ RM r5 (step x H5 y5)) λ_ s6 ⟨MM,H6,I6,q6⟩=>?_);refine wpAny_passesOwn hp (Au (hb _ s6 MM H6 _ I6 q6) λf s7 q7=>?_);have again:∀{HB:St}{H7:Hp},Inv X (AH++Ny fp s5.heap) HB H7 s7->N HB H7->∃m,m<n/\∃i Aq H',Inv X AH Aq H' s7/\tn i s7.heap/\(∀b∈fp,H' b=none)/\W i m Aq H':=λ{HB H7} I7 n7=>by
   obtain⟨m',hm,w7⟩:=hN HB H7 n7;refine⟨m',hm,i+1,HB,H7,I7.RC,T.keep _ _ _ GK λb hb o e=>(I7.pin (b,o) (List.mem_append_right _ (List.mem_append_right _ (QA hb e)))).1,λb hb=>?_,w7⟩;obtain⟨o,e,d⟩:=T.obj _ _ GK b hb;exact(I7.pin (b,o) (List.mem_append_right _ (List.mem_append_right _ (QA hb e)))).2.1
  cases f with
  |next=>obtain⟨HB,H7,I7,n7⟩:=q7;exact again I7 n7
  |cont=>obtain⟨HB,H7,I7,n7⟩:=q7;exact again I7 n7
  |brk=>obtain⟨HB,H7,I7,q7⟩:=q7;exact⟨HB,H7,I7.RC,q7⟩
  |ret v=>obtain⟨x7,HB,H7,I7,r7,q7⟩:=q7;exact⟨x7,HB,H7,I7.RC,r7,q7⟩
end
abbrev R2:=V->V->Hp->VK->Prop
def B3(X:Cx)(f:Value->Value->Sem Value)(r:R2):Prop:=
 ∀(AH:List (Addr×Obj))(s:Shared)(σ:St)(H:Hp)(x y:V)(v u:Value)(Q:VK),Inv X AH σ H s->RelV x v->RelV y u->r x y H Q->wpAny (model X.prog X.w) X.A (f v u) (EP X AH σ Q) X.xe s
def Rc(X:Cx)(f:Value->Sem Value)(r:V->Hp->VK->Prop):Prop:=
 ∀(AH:List (Addr×Obj))(s:Shared)(σ:St)(H:Hp)(x:V)(v:Value)(Q:VK),Inv X AH σ H s->RelV x v->r x H Q->wpAny (model X.prog X.w) X.A (f v) (EP X AH σ Q) X.xe s
def EO(X:Cx)(f:Value)(r:List V->Hp->VK->Prop):Prop:=
 ∀(AH:List (Addr×Obj))(s:Shared)(σ:St)(H:Hp)(xs:List V)(us:List Value)(Q:VK),Inv X AH σ H s->BA xs us->r xs H Q->wpAny (model X.prog X.w) X.A (call f us) (EP X AH σ Q) X.xe s
def OL(r:R2)(ta tb:TE):TE:=λσ H Q=>ta σ H λx H1=>tb σ H1 λy H2=>r x y H2 Q
def uM(r:V->Hp->VK->Prop)(ta:TE):TE:=λσ H Q=>ta σ H λx H1=>r x H1 Q
def rI(C:Int->Int->Prop)(g:Int->Int->V):R2:=λx y H Q=>∃i j,x=.int i/\y=.int j/\C i j/\Q (g i j) H
def IP(g:Int->Int->V):R2:=λx y H Q=>∃i j,x=.int i/\y=.int j/\Q (g i j) H
def rU(g:Int->V):V->Hp->VK->Prop:=λx H Q=>∃i,x=.int i/\Q (g i) H
section
variable{X:Cx}{a b c:Expr}{ta tb tc:TE}{pos:Pos}
theorem Rw(ha:PE X a ta)(hb:PE X b tb){AH:List (Addr×Obj)}{s:Shared}{σ:St}{H:Hp}{R:V->V->Hp->Prop}(I:Inv X AH σ H s) (h:ta σ H λx H1=>tb σ H1 λy H2=>R x y H2) {Q:Value->Shared->Prop} {f:Value->Value->Sem Value}
 (hf:∀v u s2 x y H2,Inv X AH σ H2 s2->RelV x v->RelV y u->R x y H2->wpAny (model X.prog X.w) X.A (f v u) Q X.xe s2) :
 wpAny (model X.prog X.w) X.A (eval a X.env) (λv Bo=>wpAny (model X.prog X.w) X.A (eval b X.env) (λu Q3=>wpAny (model X.prog X.w) X.A (f v u) Q X.xe Q3) X.xe Bo) X.xe s:=by
 refine Au (ha AH s σ H _ I h) λv s1 ⟨x,H1,I1,r1,q1⟩=>?_;refine Au (hb AH s1 σ H1 _ I1 q1) λu s2 ⟨y,H2,I2,r2,q2⟩=>?_;exact hf v u s2 x y H2 I2 r1 r2 q2
theorem qQ{op:Operator}{r:R2}(ho:B3 X (binaryOp op) r)(ha:PE X a ta)(hb:PE X b tb):PE X (.BinOp a op b pos) (OL r ta tb):=by
 intro AH s σ H Q I h;exact wpAny_BinOp (Rw ha hb I h λv u s2 x y H2 I2 rx ry q=>ho AH s2 σ H2 x y v u Q I2 rx ry q)
theorem ag{op:UnaryOp}{r:V->Hp->VK->Prop}(ho:Rc X (unaryOp op) r)(ha:PE X a ta):PE X (.UnaryOp op a pos) (uM r ta):=by
 intro AH s σ H Q I h;exact UnaryOp_ (Au (ha AH s σ H _ I h) λv s1 ⟨x,H1,I1,r1,q1⟩=>ho AH s1 σ H1 x v Q I1 r1 q1)
theorem UT{f:Value->Value->Sem Value}{C:Int->Int->Prop}{g:Int->Int->Int} (rule:∀(i j:Int)(t u:Tok)(s:Shared)(Q:Value->Shared->Prop)(E:Value->Shared->Prop),C i j->Q (.int (g i j) s.toks) { s with toks:=s.toks+1 }->wpAny (model X.prog X.w) X.A (f (.int i t) (.int j u)) Q E s) : B3 X f (rI C λi j=>.int (g i j)):=by
 intro AH s σ H x y v u Q I rx ry h;obtain⟨i,j,rfl,rfl,hc,q⟩:=h;obtain⟨t,rfl⟩:=rx;obtain⟨t',rfl⟩:=ry;exact rule i j t t' s _ _ hc ⟨.int (g i j),H,I.tok _,⟨_,rfl⟩,q⟩
theorem aK{f:Value->Value->Sem Value}{g:Int->Int->Int} (rule:∀(i j:Int)(t u:Tok)(s:Shared)(Q:Value->Shared->Prop)(E:Value->Shared->Prop),Q (.int (g i j) s.toks) { s with toks:=s.toks+1 }->wpAny (model X.prog X.w) X.A (f (.int i t) (.int j u)) Q E s) : B3 X f (IP λi j=>.int (g i j)):=by
 intro AH s σ H x y v u Q I rx ry h;obtain⟨i,j,rfl,rfl,q⟩:=h;obtain⟨t,rfl⟩:=rx;obtain⟨t',rfl⟩:=ry;exact rule i j t t' s _ _ ⟨.int (g i j),H,I.tok _,⟨_,rfl⟩,q⟩
theorem US{f:Value->Value->Sem Value}{g:Int->Int->Bool} (rule:∀(i j:Int)(t u:Tok)(s:Shared)(Q:Value->Shared->Prop)(E:Value->Shared->Prop),Q (.bool (g i j)) s->wpAny (model X.prog X.w) X.A (f (.int i t) (.int j u)) Q E s) : B3 X f (IP λi j=>.bl (g i j)):=by
 intro AH s σ H x y v u Q I rx ry h;obtain⟨i,j,rfl,rfl,q⟩:=h;obtain⟨t,rfl⟩:=rx;obtain⟨t',rfl⟩:=ry;exact rule i j t t' s _ _ ⟨.bl (g i j),H,I,rfl,q⟩
def MN(i j:Int):Prop:=0<j/\j<1073741824
def FH(i j:Int):Prop:=(-(2 ^ 64)<i/\i<2 ^ 64)\/(-(2 ^ 64)<j/\j<2 ^ 64)
theorem FH.ok{i j:Int}(h:FH i j):IntMulOk i j:=by
 rcases h with⟨h1,h2⟩|⟨h1,h2⟩
 ·exact .of_left (intBits_le_64 h1 h2)
 ·exact .of_right (intBits_le_64 h1 h2)
theorem pR:B3 X (binaryOp .Add) (IP λi j=>.int (i+j)):=aK λ_ _ _ _ _ _ _ q=>add_int q
theorem p8:B3 X (binaryOp .Sub) (IP λi j=>.int (i-j)):=aK λ_ _ _ _ _ _ _ q=>sub_int q
theorem ph:B3 X (binaryOp .Mult) (rI FH λi j=>.int (i*j)):=UT λ_ _ _ _ _ _ _ hc q=>mul_int q hc.ok
theorem pU:B3 X (binaryOp .FloorDiv) (rI MN λi j=>.int (i / j)):=UT λi j _ _ _ _ _ hc q=>by
 have h1:(0:Int)<j:=hc.1;have h2:j<1073741824:=hc.2;exact floordiv_int (by omega) (by rw[Int.fdiv_eq_ediv_of_nonneg i (by omega)];exact q) (.inl (PyProof.noPylong_small (by omega)))
theorem pf:B3 X (binaryOp .Mod) (rI (λ_ j=>0<j) λi j=>.int (i%j)):=UT λi j _ _ _ _ _ hc q=>by
 have h1:(0:Int)<j:=hc;exact mod_int' (by omega) (by rw[Int.fmod_eq_emod_of_nonneg i (by omega)];exact q)
theorem u6{f:Value->Sem Value}{g:Int->Int} (rule:∀(i:Int)(t:Tok)(s:Shared)(Q:Value->Shared->Prop)(E:Value->Shared->Prop),Q (.int (g i) s.toks) { s with toks:=s.toks+1 }->wpAny (model X.prog X.w) X.A (f (.int i t)) Q E s) : Rc X f (rU λi=>.int (g i)):=by
 intro AH s σ H x v Q I rx h;obtain⟨i,rfl,q⟩:=h;obtain⟨t,rfl⟩:=rx;exact rule i t s _ _ ⟨.int (g i),H,I.tok _,⟨_,rfl⟩,q⟩
theorem dE:Rc X (unaryOp .USub) (rU λi=>.int (-i)):=u6 λ_ _ _ _ _ q=>neg_int q
end
section
variable{X:Cx}{a b c:Expr}{ta tb tc:TE}{pos:Pos}
theorem pd:B3 X (compareOp .Lt) (IP λi j=>.bl (decide (i<j))):=US λ_ _ _ _ _ _ _ q=>lt_int q
theorem pZ:B3 X (compareOp .LtE) (IP λi j=>.bl (decide (i<=j))):=US λ_ _ _ _ _ _ _ q=>le_int q
theorem pW:B3 X (compareOp .Gt) (IP λi j=>.bl (decide (j<i))):=US λ_ _ _ _ _ _ _ q=>gt_int q
theorem B3.or{f:Value->Value->Sem Value}{r r':R2}(h:B3 X f r)(h':B3 X f r'):B3 X f (λx y H Q=>r x y H Q\/r' x y H Q):=by
 intro AH s σ H x y v u Q I rx ry q;rcases q with q|q
 ·exact h AH s σ H x y v u Q I rx ry q
 ·exact h' AH s σ H x y v u Q I rx ry q
theorem Ba(b:Expr){op:CmpOp}(h:op≠.In:=by decide)(h2:op≠.NotIn:=by decide):behindInMarks op b=false:=by
 have e1:(op==CmpOp.In)=false:=by cases op<;>first|rfl|exact absurd rfl h
 have e2:(op==CmpOp.NotIn)=false:=by cases op<;>first|rfl|exact absurd rfl h2
 cases b<;>simp[behindInMarks,e1,e2]
theorem qJ{op:CmpOp}{r:R2}(ho:B3 X (compareOp op) r)(ha:PE X a ta)(hb:PE X b tb)(hm:behindInMarks op b=false):PE X (.Compare a [op] [b] pos) (OL r ta tb):=by
 intro AH s σ H Q I h;exact wpAny_Compare1 (Rw ha hb I h λv u s2 x y H2 I2 rx ry q=>ho AH s2 σ H2 x y v u Q I2 rx ry q) hm
def Vi(t:TE):TT:=λσ H Q=>t σ H λx H'=>∃k,x=.bl k/\Q k H'
theorem rB{op:CmpOp}{r:R2}(ho:B3 X (compareOp op) r)(ha:PE X a ta)(hb:PE X b tb)(hm:behindInMarks op b=false):PT X (.Compare a [op] [b] pos) (Vi (OL r ta tb)):=by
 intro AH s σ H Q I h;refine wpAny_isTrue_Compare1 (Au (ha AH s σ H _ I h) λv s1 ⟨x,H1,I1,r1,q1⟩=>Au (hb AH s1 σ H1 _ I1 q1) λu s2 ⟨y,H2,I2,r2,q2⟩=>
  Au (ho AH s2 σ H2 x y v u _ I2 r1 r2 q2) λc s3 ⟨z,H3,I3,r3,k,e,q3⟩=>?_) hm
 subst e;cases r3;exact wpAny_truthy_bool ⟨H3,I3,q3⟩
def Vf(r r':R2)(ta tb tc:TE):TE:=λσ H Q=>ta σ H λx H1=>tb σ H1 λy H2=>r x y H2 λz H3=>∃k,z=.bl k/\
 (if k=true then tc σ H3 λw' H4=>r' y w' H4 Q else Q (.bl false) H3)
theorem qH{op Ca:CmpOp}{r r':R2}(ho:B3 X (compareOp op) r)(CY:B3 X (compareOp Ca) r')(ha:PE X a ta)(hb:PE X b tb)(hc:PE X c tc) (hm:lastMarks [op,Ca] [b,c]=false:=by with_unfolding_all rfl):PE X (.Compare a [op,Ca] [b,c] pos) (Vf r r' ta tb tc):=by
 intro AH s σ H Q I h;refine Compare_chain (Au (ha AH s σ H _ I h) λv s1 ⟨x,H1,I1,r1,q1⟩=>chain_link (Au (hb AH s1 σ H1 _ I1 q1) λu s2 ⟨y,H2,I2,r2,q2⟩=>
  Au (ho AH s2 σ H2 x y v u _ I2 r1 r2 q2) λd s3 ⟨z,H3,I3,r3,k,e,q3⟩=>?_)) hm
 subst e;cases r3;refine wpAny_truthy_bool ?_;cases k with
 |false=>exact ite_ff ⟨.bl false,H3,I3,rfl,q3⟩
 |true=>exact ite_tt (chain_last (Au (hc AH s3 σ H3 _ I3 q3) λw' s4 ⟨z',H4,I4,r4,q4⟩=>CY AH s4 σ H4 y z' u w' Q I4 r2 r4 q4))
theorem q9{op Ca:CmpOp}{r r':R2}(ho:B3 X (compareOp op) r)(CY:B3 X (compareOp Ca) r')(ha:PE X a ta)(hb:PE X b tb)(hc:PE X c tc) (hm:lastMarks [op,Ca] [b,c]=false:=by with_unfolding_all rfl):PT X (.Compare a [op,Ca] [b,c] pos) (Vi (Vf r r' ta tb tc)):=by
 intro AH s σ H Q I h;refine isTrue_chain (Au (ha AH s σ H _ I h) λv s1 ⟨x,H1,I1,r1,q1⟩=>test_link (Au (hb AH s1 σ H1 _ I1 q1) λu s2 ⟨y,H2,I2,r2,q2⟩=>
  Au (ho AH s2 σ H2 x y v u _ I2 r1 r2 q2) λd s3 ⟨z,H3,I3,r3,k,e,q3⟩=>?_)) hm
 subst e;cases r3;refine wpAny_truthy_bool ?_;cases k with
 |false=>
  obtain⟨k',e',q'⟩:=q3;cases e';exact ite_ff ⟨H3,I3,q'⟩
 |true=>
  refine ite_tt (test_last (Au (hc AH s3 σ H3 _ I3 q3) λw' s4 ⟨z',H4,I4,r4,q4⟩=>Au (CY AH s4 σ H4 y z' u w' _ I4 r2 r4 q4) λd' s5 ⟨z2,H5,I5,r5,k2,e2,q5⟩=>?_));subst e2;cases r5;exact wpAny_truthy_bool ⟨H5,I5,q5⟩
theorem UC:(sizeLine:Nat)<2 ^ 63:=by rw[sizeLine_eq];decide
theorem vals1{x:V}{us:List Value}(r:BA [x] us):∃u,us=[u]/\RelV x u:=by
 cases r with
 |cons r1 r2=>cases r2;exact⟨_,rfl,r1⟩
theorem vals2{x y:V}{us:List Value}(r:BA [x,y] us):∃u w',us=[u,w']/\RelV x u/\RelV y w':=by
 cases r with
 |cons r1 r2=>
  cases r2 with
  |cons r3 r4=>cases r4;exact⟨_,_,rfl,r1,r3⟩
theorem LP:EO X (.builtin "abs") (λxs H Q=>∃i,xs=[.int i]/\Q (.int (if i<0 then -i else i)) H):=by
 intro AH s σ H xs us Q I r h;obtain⟨i,rfl,q⟩:=h;obtain⟨u,rfl,t,rfl⟩:=vals1 r;exact call_abs_int λu tk=>⟨.int (if i<0 then -i else i),H,I.tok _,⟨_,rfl⟩,q⟩
theorem LQ(hc:X.calm=true):EO X (.builtin "max") (λxs H Q=>∃i j,xs=[.int i,.int j]/\Q (.int (if j>i then j else i)) H):=by
 intro AH s σ H xs us Q I r h;obtain⟨i,j,rfl,q⟩:=h;obtain⟨u,w',rfl,⟨t,rfl⟩,⟨t',rfl⟩⟩:=vals2 r;refine max_two_ints (I.ok.hd hc) λh' tk k=>⟨_,H,I.kept k,?_,q⟩;by_cases hj:j>i
 ·rw[if_pos hj,if_pos hj];exact⟨_,rfl⟩
 ·rw[if_neg hj,if_neg hj];exact⟨_,rfl⟩
theorem Ou(hc:X.calm=true):EO X (.builtin "min") (λxs H Q=>∃i j,xs=[.int i,.int j]/\Q (.int (if j<i then j else i)) H):=by
 intro AH s σ H xs us Q I r h;obtain⟨i,j,rfl,q⟩:=h;obtain⟨u,w',rfl,⟨t,rfl⟩,⟨t',rfl⟩⟩:=vals2 r;refine min_two_ints (I.ok.hd hc) λh' tk k=>⟨_,H,I.kept k,?_,q⟩;by_cases hj:j<i
 ·rw[if_pos hj,if_pos hj];exact⟨_,rfl⟩
 ·rw[if_neg hj,if_neg hj];exact⟨_,rfl⟩
end
structure RT(h:Heap)(x dx C:Addr)(mA:Str->Option Value):Prop where
 obj:h.get? x=some (PySem.W.instObj C dx)
 ns:h.Ns1 dx mA
 ne:dx≠x
theorem nR{h:Heap}{dx:Addr}{mA:Str->Option Value}(n:h.Ns1 dx mA):∃od,h.get? dx=some od/\∀name,PySem.W.lookIn name od=some (mA name):=by
 obtain⟨o,es,ep,ho,hd,hk,_,hm⟩:=n;refine⟨o,ho,λname=>?_⟩;have e:=hm name;unfold nsFind findBy at e;rw[<-Array.find?_toList]at e;unfold PySem.W.lookIn;rw[hd];dsimp only;split
 ·rename_i y q;rw[q]at e;exact congrArg some e
 ·rename_i q;rw[q]at e;have a:es.toList.any (·.refKey)=false:=by
   rw[List.any_eq_false];intro y hy;obtain⟨z,t,Tb⟩:=hk y (Array.mem_toList_iff.mp hy);simp[DictEntry.refKey,Tb]
  have a':¬ es.toList.any (·.refKey)=true:=by rw[a];exact Bool.false_ne_true
  rw[if_neg a'];exact congrArg some e
theorem RT.look{h:Heap}{x dx C:Addr}{mA:Str->Option Value}(I:RT h x dx C mA):∃od,PySem.W.InstAt h x (PySem.W.instObj C dx) C (some od)/\∀name,PySem.W.lookIn name od=some (mA name):=
 let ⟨od,ho,hl⟩:=nR I.ns
 ⟨od,⟨I.obj,rfl,rfl,ho⟩,hl⟩
section
variable{prog:Program}{w:World}{A:Around}{E:Value->Shared->Prop}{s:Shared}{K:PySem.W.Frag}{x dx C f:Addr}{mA:Str->Option Value}{name:Str}{v:Value}
end
section
variable{P:Program}{w:World}{H H':Hp}{h h':Heap}{a C dx:Addr}{fs jl:List (Str×V)}
theorem mH(A2:Cv P w H h)(e:H a=some (.ins C dx fs)):∃mA,RT h a dx C mA/\(∀f,RZ (fs.lookup f) (mA f))/\PySem.Within mA (fs.map (·.1))/\fs.length<=1000/\H dx=some (.own a):=by
 obtain⟨d,z,ne,ob,mA,n,r,q⟩:=(show Dg P w H h a (.ins C dx fs)from A2 a _ e);exact⟨mA,⟨ob,n,ne⟩,r,q,z,d⟩
end
structure RI(K:PySem.W.Frag)(C:Addr):Prop where
 pg:PySem.W.plainGet K C Str.empty=true
 hd:PySem.W.hasDictIn K C=true
 po:PySem.W.plainOver K C=true
 sa:PySem.W.findIn K (.ref C) "__setattr__" = some (some (.builtin "object.__setattr__"))
theorem RI.get{K:PySem.W.Frag}{C:Addr}(c:RI K C)(f:Str):PySem.W.plainGet K C f=true:=c.pg
structure xA(K:PySem.W.Frag)(C:Addr)(f:Str)(v:V)(u:Value):Prop where
 at_:PySem.W.findIn K (.ref C) f=some (some u)
 rel:RelV v u
 get:PySem.W.specialIn K u "__get__" = some none
 cp:PySem.W.copiedNames.contains f=false
structure Meth(K:PySem.W.Frag)(C:Addr)(m:Str)(f:Addr):Prop where
 at_:PySem.W.findIn K (.ref C) m=some (some (.ref f))
 fn:PySem.W.isFn K (.ref f)=true
 kp:PySem.W.keepIn K (.ref f)=true
section
variable{X:Cx}{AH:List (Addr×Obj)}{σ:St}{H:Hp}{s:Shared}{a C dx:Addr}{fs:List (Str×V)}{f:Str}{v:V}{A:Around}{E:Value->Shared->Prop}
end
section
variable{X:Cx}{o e value:Expr}{f:Str}{pos pos' uZ:Pos}{ta tv:TE}
end
section
variable{X:Cx}{AH:List (Addr×Obj)}{σ:St}{H:Hp}{s:Shared}{A:Around}{E:Value->Shared->Prop}{Q:Value->Shared->Prop}{c:Value}{b:Bool}
inductive FN(K:PySem.W.Frag)(H:Hp):V->Value->Prop where
 |Bq:FN K H .Bq (.type "NoneType")
 |bl (x:Bool):FN K H (.bl x) (.type "bool")
 |int (i:Int):FN K H (.int i) (.type "int")
 |str (x:Str):FN K H (.str x) (.type "str")
 |LZ (x:UInt64):FN K H (.LZ x) (.type "float")
 |lst {a:Addr} {xs:List V} (e:H a=some (.lst xs)):FN K H (.ref a) (.type "list")
 |Em {a:Addr} {o:Obj} {xs:List V} (e:H a=some (.Em o (.lst xs))):FN K H (.ref a) (.type "list")
 |tup {a:Addr} {xs:List V} (e:H a=some (.tup xs)):FN K H (.ref a) (.type "tuple")
 |dK {a:Addr} {Bi:List (Key×V)} (e:H a=some (.dK Bi)):FN K H (.ref a) (.type "dict")
 |dT {a:Addr} {Bi:List (List Key×V)} (e:H a=some (.dT Bi)):FN K H (.ref a) (.type "dict")
 |ins {a C dx:Addr} {fs:List (Str×V)} (e:H a=some (.ins C dx fs)) (cl:RI K C) (ha:PySem.W.findIn K (.ref C) "__class__" = some (some (.builtin "object.__class__"))) (hn:PySem.W.specialIn K (.builtin "object.__class__") "__get__" = some (some (.builtin "getset_descriptor.__get__"))) (ZE:PySem.W.takesIn K (.builtin "object.__class__")=some true) (hm:PySem.W.mroIn K C (.type "object")=some true):FN K H (.ref a) (.ref C)
theorem mN{x:V}{u t:Value}(I:Inv X AH σ H s)(rx:RelV x u)(ty:FN X.K H x t)(e:PySem.W.kitOne X.K t c=some b)(h:∀tk,Q (.bool b) { s with toks:=tk }) : wpAny (model X.prog X.w) A (call (.builtin "isinstance") [u,c]) Q E s:=by
 cases ty with
 |Bq=>cases (show u=Value.none from rx);exact PySem.W.kia_one PySem.W.kitx_none I.Bl True.intro e (λz=>nomatch z) h
 |bl y=>cases (show u=Value.bool y from rx);exact PySem.W.kia_one PySem.W.kitx_bool I.Bl True.intro e (λz=>nomatch z) h
 |int i=>obtain⟨t,q⟩:=(show ∃t,u=Value.int i t from rx);cases q;exact PySem.W.kia_one PySem.W.kitx_int I.Bl True.intro e (λz=>nomatch z) h
 |str y=>obtain⟨t,q⟩:=(show ∃t,u=Value.str y t from rx);cases q;exact PySem.W.kia_one PySem.W.kitx_str I.Bl True.intro e (λz=>nomatch z) h
 |LZ y=>obtain⟨t,q⟩:=(show ∃t,u=Value.float y t from rx);cases q;exact PySem.W.kia_one PySem.W.kitx_float I.Bl True.intro e (λz=>nomatch z) h
 |@lst a xs ea=>
  cases (show u=Value.ref a from rx);obtain⟨_,_,n,_,h1⟩:=(show Dg X.prog X.w H s.heap a (.lst xs)from I.A2 a _ ea);exact PySem.W.kia_one PySem.W.kitx_list I.Bl ⟨_,h1,rfl⟩ e (λz=>nomatch z) h
 |@Em a ob xs ea=>
  cases (show u=Value.ref a from rx);obtain⟨_,_,_,n,_,h1⟩:=(show Dg X.prog X.w H s.heap a (.Em ob (.lst xs))from I.A2 a _ ea);exact PySem.W.kia_one PySem.W.kitx_list I.Bl ⟨_,h1,rfl⟩ e (λz=>nomatch z) h
 |@tup a xs ea=>
  cases (show u=Value.ref a from rx);obtain⟨_,_,_,p⟩:=(show Dg X.prog X.w H s.heap a (.tup xs)from I.A2 a _ ea);obtain⟨o,h1,h2,_⟩:=p;exact PySem.W.kia_one PySem.W.kitx_tuple I.Bl ⟨o,h1,h2⟩ e (λz=>nomatch z) h
 |@dK a Bi ea=>
  cases (show u=Value.ref a from rx);obtain⟨_,_,vs,_,p⟩:=(show Dg X.prog X.w H s.heap a (.dK Bi)from I.A2 a _ ea);obtain⟨o,es,ep,h1,h2,_⟩:=p;exact PySem.W.kia_one PySem.W.kitx_dict I.Bl ⟨o,h1,h2.1⟩ e (λz=>nomatch z) h
 |@dT a Bi ea=>
  cases (show u=Value.ref a from rx);obtain⟨_,_,xs,_,o,es,ep,h1,h2,_⟩:=(show Dg X.prog X.w H s.heap a (.dT Bi)from I.A2 a _ ea);exact PySem.W.kia_one PySem.W.kitx_dict I.Bl ⟨o,h1,h2.1⟩ e (λz=>nomatch z) h
 |@ins a C dx fs ea cl ha hn ZE hm=>
  cases (show u=Value.ref a from rx);obtain⟨mA,O,_⟩:=mH I.A2 ea;obtain⟨od,J,_⟩:=O.look;exact PySem.W.kia_one (PySem.W.kitx_own (cl.get _) cl.hd ha hn ZE hm) I.Bl J e (λz=>nomatch z) h
end
structure DG(k:Nat)(A:Around):Prop where
 hd:A.handled=none
 dp:A.depth+3*k+5<recursionLimit
 un:A.units+16*k+200<cLine
theorem DG.mono{j k:Nat}{A:Around}(r:DG k A)(h:j<=k):DG j A:=⟨r.hd,by have:=r.dp;omega,by have:=r.un;omega⟩
theorem DG.deeper{k:Nat}{A:Around}(r:DG (k+1) A)(env:Env):DG k (A.deeper env):=
 ⟨r.hd,by have:=r.dp;show A.depth+1+3*k+5<_;omega,by have:=r.un;show A.units+3+16*k+200<_;omega⟩
theorem DG.depth{k:Nat}{A:Around}(r:DG k A):A.depth<recursionLimit:=by have:=r.dp;omega
theorem DG.units{k:Nat}{A:Around}(r:DG k A):A.units+64<cLine:=by have:=r.un;omega
def t7:TA:=λ_ H Q=>Q [] H
def tW(ta:TE)(tr:TA):TA:=λσ H Q=>ta σ H λx H1=>tr σ H1 λxs H2=>Q (x::xs) H2
section
variable{X:Cx}{e:Expr}{es:List Expr}{te:TE}{t:TA}{pos:Pos}
theorem Nw:PA X [] t7:=λ_ _ _ _ H Q I h=>Calls.spliced_nil ⟨[],H,I,.nil,h⟩
theorem Ke(ha:PE X e te)(hr:PA X es t)(hs:starEach (e::es) X.env=(false,eval e X.env)::starEach es X.env:=by rfl):PA X (e::es) (tW te t):=by
 intro pos AH s σ H Q I h;rw[hs];show wpAny _ _ (spliced ((false,eval e X.env)::backTo pos (starEach es X.env))) _ _ s;refine Calls.spliced_cons (Au (ha AH s σ H _ I h) λu s1 ⟨x,H1,I1,r1,q1⟩=>?_);exact Au (hr pos AH s1 σ H1 _ I1 q1) λus s2 ⟨xs,H2,I2,r2,q2⟩=>⟨x::xs,H2,I2,.cons r1 r2,q2⟩
def uL(t:TA):TE:=λσ H Q=>t σ H λxs H1=>xs.length<=sizeLine/\∀p,H1 p=none->Q (.ref p) (upd H1 p (.tup xs))
def tj(t:TA):TE:=λσ H Q=>t σ H λxs H1=>xs.length<=sizeLine/\∀p,H1 p=none->Q (.ref p) (upd H1 p (.lst xs))
theorem qV{x1}(h:PA X es t):PE X (.Tuple es x1 pos) (uL t):=by
 intro AH s σ H Q I hq;refine wpAny_Tuple_spliced (Au (h pos AH s σ H _ I hq) λus s1 ⟨xs,H1,I1,r,z,q⟩=>⟨by rw[<-r.length];exact z,?_⟩);have hf:H1 s1.heap.objs.size=none:=I1.A2.fresh (Nat.le_refl _);refine⟨.ref s1.heap.objs.size,upd H1 s1.heap.objs.size (.tup xs),I1.laid (t':=s1.toks) (λb u e=>Heap.get?_push_of_some _ e) (Nat.le_refl _) ?_,rfl,q _ hf⟩;exact⟨z,us,r,⟨_,Heap.get?_push_size _ rfl,rfl,_,rfl⟩⟩
theorem qN(h:PA X es t):PE X (.List es pos) (tj t):=by
 intro AH s σ H Q I hq;refine wpAny_List_spliced (Au (h pos AH s σ H _ I hq) λus s1 ⟨xs,H1,I1,r,z,q⟩=>⟨by rw[<-r.length];exact z,?_⟩);have hf:H1 s1.heap.objs.size=none:=I1.A2.fresh (Nat.le_refl _);refine⟨.ref s1.heap.objs.size,upd H1 s1.heap.objs.size (.lst xs),I1.laid (t':=s1.toks) (λb u e=>Heap.get?_push_of_some _ e) (Nat.le_refl _) ?_,rfl,q _ hf⟩;exact⟨z,us,0,r,Heap.get?_push_size _ rfl⟩
end
abbrev Sp:=List V->Hp->VK->XK->Prop
abbrev FI:=List Env->Hp->Shared->XK->Value->Shared->Prop
structure MO(P:Program)(w:World)(K:PySem.W.Frag)(mg:Str->Option Value)(base:Heap)(A:Around)(outer:List Env)(s:Shared)(H:Hp):Prop where
 frames:A.frames=some outer
 mod:Mod K mg base
 bs:∀b o,base.get? b=some o->s.heap.get? b=some o/\H b=none
 Ih:base.objs.size<=s.heap.objs.size
 Ge:s.heap.FunFrames base outer
 Lb:∀b∈E3 outer,H b=none
 A2:Cv P w H s.heap
 bare:AllBare s.gens
def CE(outer:List Env)(P:Program)(w:World)(H:Hp)(s:Shared)(Q:VK)(u:Value)(s':Shared):Prop:=
 ∃v H',s'.os=s.os/\AllBare s'.gens/\Un (E3 outer) [] H H' s.heap s'.heap/\Cv P w H' s'.heap/\RelV v u/\Q v H'
def CR(CX:FI)(outer:List Env)(P:Program)(w:World)(H:Hp)(s:Shared)(Q:VK)(E:XK)(r:Result)(s':Shared):Prop:=
 match r with
 |.ok (.ret u)=>CE outer P w H s Q u s'
 |.ok _=>False
 |.error e=>CX outer H s E e s'
structure Dp(P:Program)(w:World)(K:PySem.W.Frag)(mg:Str->Option Value)(base:Heap)(CX:FI)(k:Nat)(f:Addr)(fd:FuncData)(ps:List Str)(sp:Sp):Prop where
 len:∀vs H Q E,sp vs H Q E->vs.length=ps.length
 run:∀(A:Around)(outer:List Env)(s:Shared)(H:Hp)(args:Args)(us:List Value)(vs:List V)(Q:VK)(E:XK),DG k A->MO P w K mg base A outer s H->BindsTo s fd args (ps.zip us)->BA vs us->sp vs H Q E->codeAny (model P w) A (.call (.ref f) args) (CR CX outer P w H s Q E) s
theorem Dp.mono{P:Program}{w:World}{K:PySem.W.Frag}{mg:Str->Option Value}{base:Heap}{CX:FI}{j k:Nat}{f:Addr}{fd:FuncData}{ps:List Str}{sp:Sp}(F:Dp P w K mg base CX j f fd ps sp)(h:j<=k) : Dp P w K mg base CX k f fd ps sp:=⟨F.len,λA outer s H args us vs Q E hr=>F.run A outer s H args us vs Q E (hr.mono h)⟩
theorem Dp.imp{P:Program}{w:World}{K:PySem.W.Frag}{mg:Str->Option Value}{base:Heap}{CX:FI}{k:Nat}{f:Addr}{fd:FuncData}{ps:List Str}{sp cK:Sp}(F:Dp P w K mg base CX k f fd ps sp) (h:∀vs H Q E,cK vs H Q E->sp vs H Q E):Dp P w K mg base CX k f fd ps cK:=
 ⟨λvs H Q E q=>F.len vs H Q E (h _ _ _ _ q),λA outer s H args us vs Q E hr he hb hv hs=>F.run A outer s H args us vs Q E hr he hb hv (h _ _ _ _ hs)⟩
section
variable{X:Cx}{AH:List (Addr×Obj)}{σ:St}{H:Hp}{s s':Shared}
theorem Inv.jH(I:Inv X AH σ H s):MO X.prog X.w X.K X.mg X.base X.A X.stack s H:=
 ⟨I.ok.frames,I.ok.mod,I.bs,Nat.le_trans I.ok.Ih I.sz,I.stack,I.cN,I.A2,I.bare⟩
theorem Inv.after{Q:VK}{u:Value}(I:Inv X AH σ H s)(h:CE X.stack X.prog X.w H s Q u s'):EP X AH σ Q u s':=by
 obtain⟨v,H',os,bare,un,A2,r,q⟩:=h;obtain⟨hh,g,d,t,qB⟩:=s';obtain rfl:qB=s.os:=os;exact⟨v,H',I.call (h':=hh) (g':=g) (d':=d) (t':=t) (ch:=[]) un A2 bare (λb z=>absurd z (by simp)),r,q⟩
end
def tV(sp:Sp)(Io:List V)(E:XK)(t:TA):TE:=λσ H Q=>t σ H λvs H1=>sp (vs++Io) H1 Q E
def Binds(K:PySem.W.Frag)(fd:FuncData)(ps:List Str)(ds:List Value):Prop:=
 ∀(s:Shared)(us:List Value),K.In s.heap->(us++ds).length=ps.length->BindsTo s fd ⟨us,[]⟩ (ps.zip (us++ds))
theorem Binds.all{K:PySem.W.Frag}{fd:FuncData}{ps:List Str}(h:∀us:List Value,us.length=ps.length->bindArgs fd ⟨us,[]⟩=pure (ps.zip us)):Binds K fd ps []:=λs us _ hl=>by
 rw[List.append_nil]at hl ⊢;exact .of_eq (h us hl)
def Passes(CX:FI)(X:Cx)(E:XK):Prop:=∀(AH:List (Addr×Obj))(σ:St)(H:Hp)(s:Shared)(e:Value)(s':Shared),Inv X AH σ H s->CX X.stack H s E e s'->X.xe e s'
section
variable{X:Cx}{CX:FI}{k:Nat}{f C:Addr}{fd:FuncData}{ps:List Str}{sp:Sp}{Io:List V}{ds:List Value}{E:XK}{x m:Str}{p pos apos:Pos}{e o:Expr}{es:List Expr}{ta:TE}{t:TA}
theorem ro{AH:List (Addr×Obj)}{σ:St}{H:Hp}{s:Shared}{Q:VK}{us:List Value}{vs:List V}(F:Dp X.prog X.w X.K X.mg X.base CX k f fd ps sp)(hr:DG k X.A)(hb:Binds X.K fd ps ds)(hd:BA Io ds)(hx:Passes CX X E) (I:Inv X AH σ H s) (r:BA vs us) (h:sp (vs++Io) H Q E):wpAny (model X.prog X.w) X.A (call (.ref f) us) (EP X AH σ Q) X.xe s:=by
 have r2:BA (vs++Io) (us++ds):=r.append hd;have hl:(us++ds).length=ps.length:=by rw[<-r2.length];exact F.len _ _ _ _ h
 refine wpAny_call (codeAny_mono (F.run X.A X.stack s H ⟨us,[]⟩ (us++ds) (vs++Io) Q E hr I.jH (hb s us I.Bl hl) r2 h) λr s' hq=>?_);cases r with
 |error e=>exact hx AH σ H s e s' I hq
 |ok fl=>
  cases fl with
  |ret u=>exact I.after hq
  |next=>exact False.elim hq
  |brk=>exact False.elim hq
  |cont=>exact False.elim hq
theorem aa(F:Dp X.prog X.w X.K X.mg X.base CX k f fd ps sp)(hr:DG k X.A)(hg:Gl X x)(hm:X.mg x=some (.ref f))(hk:PySem.W.keepIn X.K (.ref f)=true)(hb:Binds X.K fd ps ds)(hd:BA Io ds)(hx:Passes CX X E) (ha:PA X (e::es) t) (FW:(x==("__debug__" : Str))=false:=by decide) (he:starEach (e::es) X.env=(false,eval e X.env)::starEach es X.env:=by rfl) (B7:(backTo pos (starEach es X.env)).any (·.1)=false:=by rfl) : PE X (.Call (.Name x p) (e::es) [] pos) (tV sp Io E t):=by
 intro AH s σ H Q I h;refine wpAny_Call_Name_kw (ZZ I hg hm ?_ FW);refine PySem.W.callWith_K (h₀:=X.base) I.ok.mod.UB hk (Au (ha pos AH s σ H _ I h) λus s1 ⟨vs,H1,I1,r,q⟩=>⟨I1.Bl,?_⟩) he B7;exact ro F hr hb hd hx I1 r q
structure Mk(K:PySem.W.Frag)(C f:Addr):Prop where
 makes:PySem.W.makesIn K C=true
 init:PySem.W.findIn K (.ref C) "__init__" = some (some (.ref f))
 fn:PySem.W.isFn K (.ref f)=true
 kp:PySem.W.keepIn K (.ref C)=true
end
section
variable{X:Cx}{CX:FI}{k:Nat}{f C:Addr}{fd:FuncData}{ps ks:List Str}{sp:Sp}{E:XK}{x m:Str}{p pos apos xq:Pos}{e o:Expr}{es:List Expr}{xu:List Keyword}{te ta:TE}{t tk:TA}{nm:Option Str}
structure xF(K:PySem.W.Frag)(fd:FuncData)(ps ks:List Str)(g:List Value->List Value->List Value)(gV:List V->List V->List V):Prop where
 to:∀(s:Shared)(us ws:List Value),K.In s.heap->(g us ws).length=ps.length->BindsTo s fd ⟨us,ks.zip ws⟩ (ps.zip (g us ws))
 rel:∀{vs:List V}{us:List Value}{zs:List V}{ws:List Value},BA vs us->BA zs ws->BA (gV vs zs) (g us ws)
variable{g:List Value->List Value->List Value}{gV:List V->List V->List V}
end
structure MX(N P:List Str)(sc:Scope):Prop where
 kind:sc.kind=.function
 co:sc.isCoroutine=false
 gen:sc.isGenerator=false
 nd:N.Nodup
 pre:N.take P.length=P
 par:∀x∈P,sc.names.lookup x=some .local\/sc.names.lookup x=some .cell
 n0:∀y∈sc.names,y.2≠.free
theorem WW{kindOf:Str->Option NameKind}{x:Str}:∀{binds:List (Str×Value)}{m:Str->Option Value},(∀v,(x,v)∉binds)->bindL kindOf binds m x=m x
 |[],_,_=>rfl
 |(n,v)::r,m,h=>by
  unfold bindL;rw[WW λw hw=>h w (List.mem_cons_of_mem _ hw)];split
  ·have:x≠n:=by rintro rfl;exact h v List.mem_cons_self
   simp[this]
  ·rfl
theorem WU{kindOf:Str->Option NameKind}{x:Str}:∀{binds:List (Str×Value)}{m:Str->Option Value},(∀v,(x,v)∉binds)->bindC kindOf binds m x=m x
 |[],_,_=>rfl
 |(n,v)::r,m,h=>by
  unfold bindC;rw[WU λw hw=>h w (List.mem_cons_of_mem _ hw)];split
  ·rfl
  ·have:x≠n:=by rintro rfl;exact h v List.mem_cons_self
   simp[this]
theorem WV{kindOf:Str->Option NameKind}{x:Str}{v:Value}:∀{P:List Str}{vs:List Value}{i:Nat}{m:Str->Option Value},P.Nodup->P[i]? = some x->vs[i]? = some v->kindOf x=some .local->bindL kindOf (P.zip vs) m x=some v
 |[],_,_,_,_,h,_,_=>by simp at h
 |_::_,[],_,_,_,_,h,_=>by simp at h
 |p::P,w::vs,0,m,nd,h1,h2,hk=>by
  simp at h1 h2;subst h1;subst h2;show bindL kindOf ((p,w)::P.zip vs) m p=_;unfold bindL;rw[WW λv hv=>(List.nodup_cons.mp nd).1 (List.of_mem_zip hv).1,if_pos hk];simp
 |p::P,w::vs,i+1,m,nd,h1,h2,hk=>by
  show bindL kindOf ((p,w)::P.zip vs) m x=_;unfold bindL;exact WV (i:=i) (List.nodup_cons.mp nd).2 (by simpa using h1) (by simpa using h2) hk
theorem WT{kindOf:Str->Option NameKind}{x:Str}{v:Value}:∀{P:List Str}{vs:List Value}{i:Nat}{m:Str->Option Value},P.Nodup->P[i]? = some x->vs[i]? = some v->kindOf x≠some .local->bindC kindOf (P.zip vs) m x=some v
 |[],_,_,_,_,h,_,_=>by simp at h
 |_::_,[],_,_,_,_,h,_=>by simp at h
 |p::P,w::vs,0,m,nd,h1,h2,hk=>by
  simp at h1 h2;subst h1;subst h2;show bindC kindOf ((p,w)::P.zip vs) m p=_;unfold bindC;rw[WU λv hv=>(List.nodup_cons.mp nd).1 (List.of_mem_zip hv).1,if_neg hk];simp
 |p::P,w::vs,i+1,m,nd,h1,h2,hk=>by
  show bindC kindOf ((p,w)::P.zip vs) m x=_;unfold bindC;exact WT (i:=i) (List.nodup_cons.mp nd).2 (by simpa using h1) (by simpa using h2) hk
def start(N:List Str)(vs:List V):St:=vs.map some++List.replicate (N.length-vs.length) none
def Hv(CX:FI)(P:Program)(w:World)(K:PySem.W.Frag)(mg:Str->Option Value)(base:Heap)(N:List Str)(qual:Str)(scope:Scope)(f:Addr)(cd:Value)(A:Around)(outer:List Env)(s:Shared)(H:Hp)(E:XK):Cx where
 prog:=P
 w:=w
 K:=K
 mg:=mg
 base:=base
 A:=A.deeper (envOfC qual scope s.heap.objs.size f cd)
 N:=N
 DM:=s
 Ao:=H
 env:=envOfC qual scope s.heap.objs.size f cd
 outer:=outer
 stack:=envOfC qual scope s.heap.objs.size f cd::outer
 ex:=[]
 calm:=true
 fn:=λ_=>true
 pn:=[]
 xe:=λe s'=>wpAny (model P w) (A.deeper (envOfC qual scope s.heap.objs.size f cd)) (leaving (envOfC qual scope s.heap.objs.size f cd) e) (λ_ N5=>CX outer H s E e N5) (λe' N5=>CX outer H s E e' N5) s'
theorem Ov{sc:Scope}{n:Nat}{x:Str}(h:sc.names.lookup x=some .cell):∃c,(cellsFrom n sc.names []).lookup x=some c:=by
 have q:=PySem.W.cellsFrom_some sc.names n [] (.inl h);exact Option.isSome_iff_exists.mp q
theorem mM{CX:FI}{P:Program}{w:World}{K:PySem.W.Frag}{mg:Str->Option Value}{base:Heap}{N ps:List Str}{qual:Str}{scope:Scope}{f:Addr}{cd:Value}{A:Around}{outer:List Env}{s s1:Shared}{H:Hp}{E:XK}{us:List Value}{vs:List V} (S:MX N ps scope) (hd:A.handled=none) (e0:MO P w K mg base A outer s H) (hl:vs.length=ps.length) (r:BA vs us) (x:InCallC s s.heap.objs.size (bindL (envOfC qual scope s.heap.objs.size f cd).kindOf (ps.zip us) λ_=>none) (cellsFrom (s.heap.objs.size+1) scope.names []) (bindC (envOfC qual scope s.heap.objs.size f cd).kindOf (ps.zip us) λ_=>none) s1) :
 Inv (Hv CX P w K mg base N qual scope f cd A outer s H E) [] (start N vs) H s1:=by
 have B7:ps.length<=N.length:=by have:=congrArg List.length S.pre;rw[List.length_take]at this;omega
 obtain⟨h1,tk,rfl,hk⟩:=x.done;have Np:∀b:Addr,b∉(Hv CX P w K mg base N qual scope f cd A outer s H E).ex:=λb z=>absurd (show b∈([]:List Addr)from z) (by simp);refine⟨⟨e0.mod,S.kind,rfl,rfl,Nat.le_refl _,λy z c h1 h2=>?_,λy hy=>?_,λy c _ h=>?_,λ_=>hd,Around.frames_deeper e0.frames,.inr ⟨rfl,rfl⟩,λb z=>absurd z (Np b),e0.bs,e0.Ih,λb _ _=>Np b,λb z=>absurd z (Np b),e0.Ge,e0.Lb⟩,
  rfl,e0.bare,Un.kept hk,⟨_,x.toInCall.ns,λi y v h1 h2 h3=>?_⟩,λy c h=>⟨_,x.cell y c h⟩,e0.A2.fresh (Nat.le_refl _),λy c h=>?_,λp hp=>absurd (show p∈([]:List (Addr×Obj))from hp) (by simp),e0.A2.kept hk,?_⟩
 ·exact name_of_addr x.apart (PySem.mem_of_lookup h1) (PySem.mem_of_lookup h2)
 ·have hy:scope.names.lookup y=some .cell\/scope.names.lookup y=some .free:=hy;rcases hy with hy|hy
  ·exact Ov hy
  ·exact absurd rfl (S.n0 _ (PySem.mem_of_lookup hy))
 ·exact Nat.le_of_lt (x.above y c (PySem.mem_of_lookup h))
 ·have hi:i<vs.length:=by
   unfold start at h2;by_cases hi:i<vs.length
   ·exact hi
   ·rw[List.getElem?_append_right (by simpa using hi)]at h2;rw[List.getElem?_replicate]at h2;split at h2<;>cases h2
  have ha:vs[i]? = some v:=by
   unfold start at h2;rw[List.getElem?_append_left (by simpa using hi),List.getElem?_map]at h2;cases e:vs[i]? with
   |none=>rw[e]at h2;cases h2
   |some a=>rw[e]at h2;cases h2;rfl
  obtain⟨u,hu,rv⟩:=r.get ha;have hp:ps[i]? = some y:=by
   rw[<-S.pre,List.getElem?_take_of_lt (by omega)];exact h1
  have Z6:ps.Nodup:=by rw[<-S.pre];exact S.nd.sublist (List.take_sublist _ _)
  refine⟨u,rv,?_⟩;rcases S.par y (List.mem_of_getElem? hp)with k|k
  ·exact .inl ⟨k,WV Z6 hp hu k⟩
  ·obtain⟨c,e⟩:=Ov (n:=s.heap.objs.size+1) k;refine .inr ⟨.inl k,c,e,?_⟩;have q:=x.cell y c e;rw[WT Z6 hp hu (by show scope.names.lookup y≠_;rw[k];decide)]at q;exact q
 ·exact e0.A2.fresh (Nat.le_of_lt (x.above y c (PySem.mem_of_lookup h)))
 ·unfold start;show _=N.length;rw[List.length_append,List.length_map,List.length_replicate];omega
theorem jf{CX:FI}{P:Program}{w:World}{K:PySem.W.Frag}{mg:Str->Option Value}{base:Heap}{k:Nat}{f:Addr}{name qual:Str}{params:Arguments}{body:List Stmt}{scope:Scope}{dV kV doc pm Be ct oc:Value}{an od:Option Addr} {IK:Array (Option Value)} {N ps:List Str} {sp:Sp} (lk:K.lookup f=some ⟨oc,od,.func (PySem.W.fnOf name qual params body scope dV kV doc pm an Be ct),IK⟩) (C3:PySem.W.codeIn K Be qual=true) (S:MX N ps scope) (len:∀vs H Q E,sp vs H Q E->vs.length=ps.length) (NC:∀(A:Around)(outer:List Env)(s:Shared)(H:Hp)(vs:List V)(Q:VK)(E:XK),DG k (A.deeper (envOfC qual scope s.heap.objs.size f Be))->sp vs H Q E->
  ∃t,D4 (Hv CX P w K mg base N qual scope f Be A outer s H E) body t/\t { nx:=λ_ H'=>Q .Bq H',rt:=Q } (start N vs) H) :
 Dp P w K mg base CX (k+1) f (PySem.W.fnOf name qual params body scope dV kV doc pm an Be ct) ps sp:=by
 refine⟨len,λA outer s H args us vs Q E hr e0 hb r F5=>?_⟩;have hl:=len _ _ _ _ F5;have KX:K.In s.heap:=e0.mod.UB.keeps λb o e=>(e0.bs b o e).1;have lim:s.heap.NoLimit:=e0.mod.nolimit.keeps λb o e=>(e0.bs b o e).1;have lB:∀y∈ps.zip us,scope.names.lookup y.1=some .local\/(scope.names.lookup y.1=some .cell/\((cellsFrom (s.heap.objs.size+1) scope.names []).lookup y.1).isSome=true):=λ⟨n,v⟩ hy=>by
  rcases S.par n (List.of_mem_zip hy).1 with q|q
  ·exact .inl q
  ·exact .inr ⟨q,PySem.W.cellsFrom_some _ _ _ (.inl q)⟩
 refine codeAny_call_function hr.depth (KX _ _ lk) rfl S.co S.gen rfl (PySem.W.codeRec_of KX C3) (hb _ _ _ _ ?_);refine wpAny_newFunctionEnv_cells S.kind lB λenv he s1 x=>?_;subst he;refine⟨lim.keeps x.toInCall.keep,codeAny_func ?_⟩;obtain⟨t,ht,hq⟩:=NC A outer s H vs Q E (hr.deeper _) F5;have I:Inv (Hv CX P w K mg base N qual scope f Be A outer s H E) [] (start N vs) H s1:=mM S hr.hd e0 hl r x;refine wpAny_mono (ht [] s1 (start N vs) H _ I hq) (λfl s' hs=>?_) λe s' hs=>hs;have fin:∀{Aq:St}{H':Hp}{v:V}{u:Value},Inv (Hv CX P w K mg base N qual scope f Be A outer s H E) [] Aq H' s'->RelV v u->Q v H'->CE outer P w H s Q u s':=
  λ{Aq H' v u} J rv q=>⟨v,H',J.os,J.bare,J.base,J.A2,rv,q⟩
 cases fl with
 |ret u=>
  obtain⟨v,Aq,H',J,rv,q⟩:=hs;exact fin J rv q
 |next=>
  obtain⟨Aq,H',J,q⟩:=hs;exact fin (v:=V.Bq) (u:=Value.none) J rfl q
 |brk=>
  obtain⟨_,_,_,q⟩:=hs;exact False.elim q
 |cont=>
  obtain⟨_,_,_,q⟩:=hs;exact False.elim q
section
variable{X:Cx}{x:Str}{p pos:Pos}{e:Expr}{es:List Expr}{t:TA}{id T:String}{r:List V->Hp->VK->Prop}
def Ve(r:List V->Hp->VK->Prop)(t:TA):TE:=λσ H Q=>t σ H λvs H1=>r vs H1 Q
theorem QQ(hc:EO X (.builtin id) r)(hg:Gl X x)(hm:X.mg x=none)(hv:bootBuiltins x=some (.builtin id))(ha:PA X (e::es) t)(hn:x≠"__name__":=by decide)(FW:(x==("__debug__" : Str))=false:=by decide) (he:starEach (e::es) X.env=(false,eval e X.env)::starEach es X.env:=by rfl) (B7:(backTo pos (starEach es X.env)).any (·.1)=false:=by rfl):PE X (.Call (.Name x p) (e::es) [] pos) (Ve r t):=by
 intro AH s σ H Q I h;refine wpAny_Call_Name_kw (Nh I hg hm hv ?_ hn FW);exact PyProof.Rows.callWith_builtin1 (Au (ha pos AH s σ H _ I h) λus s1 ⟨vs,H1,I1,r1,q1⟩=>hc AH s1 σ H1 vs us Q I1 r1 q1) he B7
theorem ab(hc:EO X (.type T) r)(hg:Gl X x)(hm:X.mg x=none)(hv:bootBuiltins x=some (.type T))(ha:PA X (e::es) t)(hn:x≠"__name__":=by decide)(FW:(x==("__debug__" : Str))=false:=by decide) (he:starEach (e::es) X.env=(false,eval e X.env)::starEach es X.env:=by rfl) (B7:(backTo pos (starEach es X.env)).any (·.1)=false:=by rfl):PE X (.Call (.Name x p) (e::es) [] pos) (Ve r t):=by
 intro AH s σ H Q I h;refine wpAny_Call_Name_kw (Nh I hg hm hv ?_ hn FW);exact PyProof.Rows.callWith_type1 (Au (ha pos AH s σ H _ I h) λus s1 ⟨vs,H1,I1,r1,q1⟩=>hc AH s1 σ H1 vs us Q I1 r1 q1) he B7
end
end L2
namespace HT
open PySem PyProof.Rows
section
open PySem.SeqAt
open PySem.AutoSeq1 (wpAny_loadPart')
open PySem.MeetsSeq PySem.MeetsSeq2 PySem.MeetsSeq3
end
section
variable{prog:Program}{w:World}{A:Around}{E:Value->Shared->Prop}{s:Shared}
def Dm(n d:Nat):Option Int->Nat
 |none=>d
 |some v=>if v<0 then(v+(n:Int)).toNat else min v.toNat n
theorem Ur(n d:Nat):Dm n d none=d:=rfl
theorem Uq(n d k:Nat):Dm n d (some (k:Int))=min k n:=by
 show(if(k:Int)<0 then((k:Int)+(n:Int)).toNat else min (k:Int).toNat n)=min k n;rw[if_neg (by omega),Int.toNat_natCast]
end
end HT
namespace L2
open PySem PySem.Spec PyProof.Rows
abbrev TO:=St->Hp->(Option Int->Hp->Prop)->Prop
def PO(X:Cx)(e:Option Expr)(t:TO):Prop:=
 ∀(AH:List (Addr×Obj))(s:Shared)(σ:St)(H:Hp)(Q:Option Int->Hp->Prop),Inv X AH σ H s->t σ H Q->wpAny (model X.prog X.w) X.A (evalPart e X.env) (λu s'=>∃o H',Inv X AH σ H' s'/\IsPart u o/\Q o H') X.xe s
def t8:TO:=λ_ H Q=>Q none H
def uG(t:TE):TO:=λσ H Q=>t σ H λx H1=>∃i,x=.int i/\Q (some i) H1
theorem intsAre_of{ns:List Int}:∀{us:List Value},BA (ns.map V.int) us->IntsAre us ns:=by
 induction ns with
 |nil=>intro us r;rw[List.map_nil]at r;cases r;exact .nil
 |cons n ns ih=>
  intro us r;rw[List.map_cons]at r;cases r with
  |cons r1 r2=>
   obtain⟨t,e⟩:=r1;subst e;exact .cons n t (ih r2)
section
variable{X:Cx}{e:Expr}{te:TE}{lo hi:Option Expr}{tl th:TO}{pos p2:Pos}
theorem qm:PO X none t8:=by
 intro AH s σ H Q I h;rw[evalPart_none];exact wpAny_pure ⟨none,H,I,.none,h⟩
theorem qo(h:PE X e te):PO X (some e) (uG te):=by
 intro AH s σ H Q I hw;rw[evalPart_some];refine Au (h AH s σ H _ I hw) λu s1 ⟨x,H1,I1,r1,q1⟩=>?_;obtain⟨i,rfl,q⟩:=q1;obtain⟨t,rfl⟩:=r1;exact⟨some i,H1,I1,.int i t,q⟩
def WL(X:Cx)(r:V->Option Int->Option Int->Hp->VK->Prop):Prop:=
 ∀(AH:List (Addr×Obj))(s:Shared)(σ:St)(H:Hp)(x:V)(v vl vu:Value)(lo hi:Option Int)(sl:Addr)(Q:VK),Inv X AH σ H s->RelV x v->s.heap.IsSliceOf sl vl vu .none->IsPart vl lo->IsPart vu hi->r x lo hi H Q->∃T id,typeLookup (.type T) "__getitem__" = pure (some (.builtin id))/\s.TypeIs v T/\wpAny (model X.prog X.w) X.A (getItem v (.ref sl)) (EP X AH σ Q) X.xe s
def uK(r:V->Option Int->Option Int->Hp->VK->Prop)(te:TE)(tl th:TO):TE:=λσ H Q=>te σ H λx H1=>tl σ H1 λl H2=>th σ H2 λu H3=>r x l u H3 Q
theorem qT{r:V->Option Int->Option Int->Hp->VK->Prop}(hr:WL X r)(he:PE X e te)(hl:PO X lo tl)(hu:PO X hi th):PE X (.Subscript e (.Slice lo hi none p2) pos) (uK r te tl th):=by
 intro AH s σ H Q I h;refine Subscript_ (Au (he AH s σ H _ I h) λv s1 ⟨x,H1,I1,r1,q1⟩=>?_);refine wpAny_Slice (Au (hl AH s1 σ H1 _ I1 q1) λvl s2 ⟨l,H2,I2,pl,q2⟩=>Au (hu AH s2 σ H2 _ I2 q2) λvu s3 ⟨u,H3,I3,pu,q3⟩=>?_);rw[evalPart_none];refine wpAny_pure ?_;have I4:Inv X AH σ H3 { s3 with heap:=s3.heap.push { cls:=.type "slice",data:=.fields #[vl,vu,.none] } }:=I3.kept (t':=s3.toks) λb ob q=>Heap.get?_push_of_some _ q;obtain⟨T,id,hT,ht,hg⟩:=hr AH { s3 with heap:=s3.heap.push { cls:=.type "slice",data:=.fields #[vl,vu,.none] } } σ H3 x v vl vu l u s3.heap.objs.size Q I4 r1 (Heap.IsSliceOf.new ..) pl pu q3;show wpAny (model X.prog X.w) X.A (subscriptTail e (.Slice lo hi none p2) v (.ref s3.heap.objs.size)) (EP X AH σ Q) X.xe { s3 with heap:=s3.heap.push { cls:=.type "slice",data:=.fields #[vl,vu,.none] } };exact tail_any (ops:=[.ref s3.heap.objs.size,v]) ht hT hg (by with_unfolding_all rfl)
def Mo(xs:List V)(lo hi:Option Int):List V:=(xs.drop (HT.Dm xs.length 0 lo)).take (HT.Dm xs.length xs.length hi-HT.Dm xs.length 0 lo)
theorem gv(xs:List V)(lo hi:Option Int):(Mo xs lo hi).length<=xs.length:=by
 unfold Mo;rw[List.length_take,List.length_drop];omega
end
def Ha(n:Nat)(i:Int):Option Nat:=if 0<=i then(if i<n then some i.toNat else none)else if -(n:Int)<=i then some (i+n).toNat else none
def DD{α:Type}(xs:List α)(i:Int):Option α:=(Ha xs.length i).bind λj=>xs[j]?
theorem mP{n:Nat}{i:Int}{j:Nat}(h:Ha n i=some j):seqIndex? i n=some j/\j<n/\-(n:Int)<=i/\i<n:=by
 unfold Ha at h;by_cases h0:0<=i
 ·rw[if_pos h0]at h;by_cases h1:i<n
  ·rw[if_pos h1]at h;have e:i.toNat=j:=Option.some.inj h;exact⟨by rw[seqIndex_of h0 h1,e],by omega,by omega,h1⟩
  ·rw[if_neg h1]at h;cases h
 ·rw[if_neg h0]at h;by_cases h1 : -(n:Int)<=i
  ·rw[if_pos h1]at h;have e:(i+n).toNat=j:=Option.some.inj h;exact⟨by rw[seqIndex_neg (by omega) h1,e],by omega,h1,by omega⟩
  ·rw[if_neg h1]at h;cases h
theorem WQ{α:Type}{xs:List α}{i:Int}{v:α}(h:DD xs i=some v):∃j,seqIndex? i xs.length=some j/\xs[j]? = some v/\j<xs.length/\-(xs.length:Int)<=i/\i<xs.length:=by
 unfold DD at h;cases e:Ha xs.length i with
 |none=>rw[e]at h;cases h
 |some j=>
  rw[e]at h;obtain⟨h1,h2,h3,h4⟩:=mP e;exact⟨j,h1,h,h2,h3,h4⟩
def WJ(b:Expr):Prop:=∀o i,subscripted b false o i=operate [o,i] (getItem o i)
def IY(X:Cx)(r:R2):Prop:=
 ∀(value slice:Expr)(AH:List (Addr×Obj))(s:Shared)(σ:St)(H:Hp)(x y:V)(v u:Value)(Q:VK),Inv X AH σ H s->RelV x v->RelV y u->r x y H Q->subscripted slice false v u=operate [v,u] (getItem v u)->wpAny (model X.prog X.w) X.A (subscriptTail value slice v u) (EP X AH σ Q) X.xe s
def fE(X:Cx)(id:String)(r:V->List V->Hp->VK->Prop):Prop:=
 ∀(AH:List (Addr×Obj))(s:Shared)(σ:St)(H:Hp)(x:V)(xs:List V)(v:Value)(us:List Value)(Q:VK),Inv X AH σ H s->RelV x v->BA xs us->r x xs H Q->wpAny (model X.prog X.w) X.A (call (.builtin id) (v::us)) (EP X AH σ Q) X.xe s
section
variable{X:Cx}{a b:Expr}{ta tb:TE}{pos:Pos}
theorem IY.or{r r':R2}(h:IY X r)(h':IY X r'):IY X (λx y H Q=>r x y H Q\/r' x y H Q):=by
 intro value slice AH s σ H x y v u Q I rx ry q hs;rcases q with q|q
 ·exact h value slice AH s σ H x y v u Q I rx ry q hs
 ·exact h' value slice AH s σ H x y v u Q I rx ry q hs
theorem qM{r:R2}(hr:IY X r)(ha:PE X a ta)(hb:PE X b tb)(hs:WJ b):PE X (.Subscript a b pos) (OL r ta tb):=by
 intro AH s σ H Q I h;exact Subscript_ (Rw ha hb I h λv u s2 x y H2 I2 rx ry q=>hr a b AH s2 σ H2 x y v u Q I2 rx ry q (hs _ _))
def bS(K:PySem.W.Frag):R2:=λx y H Q=>∃p xs i v,x=.ref p/\y=.int i/\DH K H p xs/\DD xs i=some v/\Q v H
def bX(K:PySem.W.Frag):R2:=λx y H Q=>∃p xs i v,x=.ref p/\y=.int i/\DV K H p xs/\DD xs i=some v/\Q v H
theorem mR:IY X (bS X.K):=by
 intro value slice AH s σ H x y v u Q I rx ry h hs;obtain⟨p,xs,i,z,rfl,rfl,hq,he,q⟩:=h;cases rx;obtain⟨t,rfl⟩:=ry;obtain⟨its,r,pl,hz⟩:=I.list hq;obtain⟨j,h1,h2,h3,h4,h5⟩:=WQ he;obtain⟨w,ew,Fe⟩:=r.get h2;have hl:=r.length;have hn:=UC;have fin:EP X AH σ Q w s:=⟨z,H,I,Fe,q⟩;by_cases h0:0<=i
 ·have hj:i.toNat=j:=by
   rw[seqIndex_of h0 h5]at h1;exact Option.some.inj h1
  exact item_listR pl.isList h0 (by omega) (by rw[hj];simpa using ew) fin hs
 ·have hj:(i+(its.toArray.size:Int)).toNat=j:=by
   rw[seqIndex_neg (by omega) h4]at h1;rw[List.size_toArray,<-hl];exact Option.some.inj h1
  exact subscriptTail_builtinR (x:=w) pl.isList.typeIs slot_list_getitem.lookup (wpAny_getItem_list_neg (Q:=λr s'=>r=w/\EP X AH σ Q r s') pl.isList (by omega) (by rw[List.size_toArray]<;>omega) (by omega) (by rw[hj];simpa using ew) ⟨rfl,fin⟩) hs
theorem mS:IY X (bX X.K):=by
 intro value slice AH s σ H x y v u Q I rx ry h hs;obtain⟨p,xs,i,z,rfl,rfl,hq,he,q⟩:=h;cases rx;obtain⟨t,rfl⟩:=ry;obtain⟨its,r,pl,hz⟩:=I.tuple hq;obtain⟨j,h1,h2,h3,h4,h5⟩:=WQ he;obtain⟨w,ew,Fe⟩:=r.get h2;have hl:=r.length;have hn:=UC;have fin:EP X AH σ Q w s:=⟨z,H,I,Fe,q⟩;exact subscriptTail_builtinR (x:=w) pl.typeIs slot_tuple_getitem.lookup (getItem_tuple (j:=j) (Q:=λr s'=>r=w/\EP X AH σ Q r s') pl (by omega) (by omega) (by rw[List.size_toArray,<-hl];exact h1) (by simpa using ew) ⟨rfl,fin⟩) hs
theorem tN(lo hi:Option Int)(n:Nat):(sliceBounds lo hi none n).1=((HT.Dm n 0 lo:Nat):Int)/\(sliceBounds lo hi none n).2.1=((HT.Dm n n hi:Nat):Int)/\(sliceBounds lo hi none n).2.2=1:=by
 refine⟨?_,?_,rfl⟩
 ·cases lo with
  |none=>simp[sliceBounds,HT.Dm]
  |some i=>
   simp only[sliceBounds,HT.Dm,Option.getD_none,show(1:Int)>0 by decide,if_true];by_cases h:i<0
   ·simp only[h,if_true]<;>omega
   ·simp only[h,if_false]<;>omega
 ·cases hi with
  |none=>simp[sliceBounds,HT.Dm]
  |some i=>
   simp only[sliceBounds,HT.Dm,Option.getD_none,show(1:Int)>0 by decide,if_true];by_cases h:i<0
   ·simp only[h,if_true]<;>omega
   ·simp only[h,if_false]<;>omega
theorem tM(its:List Value)(lo hi:Option Int):slicePick its.toArray lo hi none=((its.drop (HT.Dm its.length 0 lo)).take (HT.Dm its.length its.length hi-HT.Dm its.length 0 lo)).toArray:=by
 obtain⟨h1,h2,h3⟩:=tN lo hi its.toArray.size;unfold slicePick;rw[h1,h2,h3];simp only[sliceRange_one,pick_run,List.size_toArray]<;>rfl
def rX(K:PySem.W.Frag):V->Option Int->Option Int->Hp->VK->Prop:=λx lo hi H Q=>∃a xs,x=.ref a/\DH K H a xs/\∀p,H p=none->Q (.ref p) (upd H p (.lst (Mo xs lo hi)))
theorem tK:WL X (rX X.K):=by
 intro AH s σ H x v vl vu lo hi sl Q I rx hs pl pu h;obtain⟨a,xs,rfl,hx,q⟩:=h;cases rx;obtain⟨its,r,ht,hz⟩:=I.list hx;have CO:=r.length;refine⟨"list",_,slot_list_getitem.lookup,ht.isList.typeIs,?_⟩;refine wpAny_getItem_list_slice ht.isList hs pl pu .none (by simp) ?_ (by rw[List.size_toArray]<;>omega);rw[tM,<-CO];refine⟨.ref s.heap.objs.size,_,I.laid (t':=s.toks) (o:=.lst (Mo xs lo hi)) (λb ob q=>Heap.get?_push_of_some _ q) (Nat.le_refl _) ?_,rfl,q _ (I.A2.fresh (Nat.le_refl _))⟩;exact⟨Nat.le_trans (gv xs lo hi) hz,_,0,(r.drop (HT.Dm xs.length 0 lo)).take (HT.Dm xs.length xs.length hi-HT.Dm xs.length 0 lo),Heap.get?_push_size _ rfl⟩
def Iz:V->Bool
 |.Bq=>true
 |.bl _=>true
 |.int _=>true
 |.str _=>true
 |_=>false
def Ip:V->V->Bool
 |.Bq,.Bq=>true
 |.bl a,.bl b=>a==b
 |.bl a,.int b=>(if a then 1 else 0)==b
 |.int a,.bl b=>a==(if b then 1 else 0)
 |.int a,.int b=>a==b
 |.str a,.str b=>a==b
 |_,_=>false
theorem jI{A:Around}{s:Shared}{y x:V}{u v:Value}(ry:RelV y u)(rx:RelV x v)(fy:Iz y=true)(fx:Iz x=true):SeqAt.EqAt A s u v (Ip y x):=by
 cases y with
 |Bq=>
  cases ry;cases x with
  |Bq=>cases rx;exact SeqAt.EqAt.same _
  |bl b=>cases rx;exact SeqAt.EqAt.none_bool b
  |int b=>obtain⟨t,rfl⟩:=rx;exact SeqAt.EqAt.none_int b t
  |str b=>obtain⟨t,rfl⟩:=rx;exact SeqAt.EqAt.none_str b t
  |_=>exact absurd (show false=true from fx) Bool.false_ne_true
 |bl a=>
  cases ry;cases x with
  |Bq=>cases rx;exact SeqAt.EqAt.bool_none a
  |bl b=>cases rx;exact SeqAt.EqAt.bool_bool a b
  |int b=>obtain⟨t,rfl⟩:=rx;exact SeqAt.EqAt.bool_int a b t
  |str b=>obtain⟨t,rfl⟩:=rx;exact SeqAt.EqAt.bool_str a b t
  |_=>exact absurd (show false=true from fx) Bool.false_ne_true
 |int a=>
  obtain⟨t',rfl⟩:=ry;cases x with
  |Bq=>cases rx;exact SeqAt.EqAt.int_none a t'
  |bl b=>cases rx;exact SeqAt.EqAt.int_bool a t' b
  |int b=>obtain⟨t,rfl⟩:=rx;exact SeqAt.EqAt.int_int a t' b t
  |str b=>obtain⟨t,rfl⟩:=rx;exact SeqAt.EqAt.int_str a t' b t
  |_=>exact absurd (show false=true from fx) Bool.false_ne_true
 |str a=>
  obtain⟨t',rfl⟩:=ry;cases x with
  |Bq=>cases rx;exact SeqAt.EqAt.str_none a t'
  |bl b=>cases rx;exact SeqAt.EqAt.str_bool a t' b
  |int b=>obtain⟨t,rfl⟩:=rx;exact SeqAt.EqAt.str_int a t' b t
  |str b=>obtain⟨t,rfl⟩:=rx;exact SeqAt.EqAt.str_str a t' b t
  |_=>exact absurd (show false=true from fx) Bool.false_ne_true
 |_=>exact absurd (show false=true from fy) Bool.false_ne_true
def Ei(x:V)(u:Value):Bool:=match u with
 |.none=>Ip .Bq x
 |.bool b=>Ip (.bl b) x
 |.int i _=>Ip (.int i) x
 |.str z _=>Ip (.str z) x
 |_=>false
theorem Xu{x y:V}{u:Value}(r:RelV y u)(f:Iz y=true):Ei x u=Ip y x:=by
 cases y with
 |Bq=>cases r;rfl
 |bl b=>cases r;rfl
 |int i=>obtain⟨t,rfl⟩:=r;rfl
 |str z=>obtain⟨t,rfl⟩:=r;rfl
 |_=>exact absurd (show false=true from f) Bool.false_ne_true
theorem Me{x:V}:∀{xs:List V}{us:List Value},BA xs us->xs.all Iz=true->us.any (Ei x)=xs.any λy=>Ip y x
 |_,_,.nil,_=>rfl
 |y::xs,u::us,.cons r t,f=>by
  rw[List.all_cons,Bool.and_eq_true]at f;rw[List.any_cons,List.any_cons,Xu r f.1,Me t f.2]
theorem Nl{A:Around}{s:Shared}{x:V}{v:Value}(rx:RelV x v)(fx:Iz x=true):∀{xs:List V}{us:List Value},BA xs us->xs.all Iz=true->∀u∈us,SeqAt.EqAt A s u v (Ei x u)
 |_,_,.nil,_=>λu hu=>by cases hu
 |y::xs,u::us,.cons r t,f=>λu' hu=>by
  rw[List.all_cons,Bool.and_eq_true]at f;rcases List.mem_cons.mp hu with rfl|hu
  ·rw[Xu r f.1];exact jI r rx f.1 fx
  ·exact Nl rx fx t f.2 u' hu
def Pr(x:V)(xs:List V):Bool:=xs.any λy=>Ip y x
def Ug(K:PySem.W.Frag)(neg:Bool):R2:=λx y H Q=>∃p xs,y=.ref p/\(DH K H p xs\/DV K H p xs)/\Iz x=true/\xs.all Iz=true/\Q (.bl (if neg then !Pr x xs else Pr x xs)) H
theorem pX:B3 X (compareOp .In) (Ug X.K false):=by
 intro AH s σ H x y v u Q I rx ry h;obtain⟨p,xs,rfl,hq,fx,fs,q⟩:=h;cases ry;rcases hq with hq|hq
 ·obtain⟨its,r,pl,hz⟩:=I.list hq;refine SeqAt.in_listAt (Ei x) pl.isList (λw hw=>Nl rx fx r fs w (by simpa using hw)) ⟨.bl _,H,I,rfl,?_⟩;rw[show its.toArray.any (Ei x)=its.any (Ei x)by simp,Me r fs];exact q
 ·obtain⟨its,r,pl,hz⟩:=I.tuple hq;refine SeqAt.in_tupleAt (Ei x) pl (λw hw=>Nl rx fx r fs w (by simpa using hw)) ⟨.bl _,H,I,rfl,?_⟩;rw[show its.toArray.any (Ei x)=its.any (Ei x)by simp,Me r fs];exact q
theorem p7:B3 X (compareOp .NotIn) (Ug X.K true):=by
 intro AH s σ H x y v u Q I rx ry h;obtain⟨p,xs,rfl,hq,fx,fs,q⟩:=h;cases ry;rcases hq with hq|hq
 ·obtain⟨its,r,pl,hz⟩:=I.list hq;refine SeqAt.notIn_listAt (Ei x) pl.isList (λw hw=>Nl rx fx r fs w (by simpa using hw)) ⟨.bl _,H,I,rfl,?_⟩;rw[show its.toArray.any (Ei x)=its.any (Ei x)by simp,Me r fs];exact q
 ·obtain⟨its,r,pl,hz⟩:=I.tuple hq;refine SeqAt.notIn_tupleAt (Ei x) pl (λw hw=>Nl rx fx r fs w (by simpa using hw)) ⟨.bl _,H,I,rfl,?_⟩;rw[show its.toArray.any (Ei x)=its.any (Ei x)by simp,Me r fs];exact q
theorem gO:EO X (.builtin "len") (λxs H Q=>∃p ys,xs=[.ref p]/\(DH X.K H p ys\/DV X.K H p ys)/\Q (.int ys.length) H):=by
 intro AH s σ H xs us Q I r h;obtain⟨p,ys,rfl,hq,q⟩:=h;obtain⟨u,rfl,rx⟩:=vals1 r;cases rx;have hn:=UC;rcases hq with hq|hq
 ·obtain⟨its,r',pl,hz⟩:=I.list hq;have CO:=r'.length;exact Calls.call_len_list pl.isList (by simp only[List.size_toArray]<;>omega) ⟨.int ys.length,H,I.tok _,⟨s.toks+1,by rw[List.size_toArray,CO]⟩,q⟩
 ·obtain⟨its,r',pl,hz⟩:=I.tuple hq;have CO:=r'.length;exact len_tuple pl (by simp only[List.size_toArray]<;>omega) ⟨.int ys.length,H,I.tok _,⟨s.toks+1,by rw[List.size_toArray,CO]⟩,q⟩
theorem Wg:EO X (.type "list") (λxs H Q=>∃p ys,xs=[.ref p]/\(DH X.K H p ys\/DV X.K H p ys)/\∀l,H l=none->Q (.ref l) (upd H l (.lst ys))):=by
 intro AH s σ H xs us Q I r h;obtain⟨p,ys,rfl,hq,q⟩:=h;obtain⟨u,rfl,rx⟩:=vals1 r;cases rx;have fin:∀(its:List Value),BA ys its->ys.length<=sizeLine->∀(h':Heap)(c':Nat),(∀b o',s.heap.get? b=some o'->h'.get? b=some o')->h'.get? s.heap.objs.size=some { cls:=.type "list",dict:=none,data:=.seq its.toArray c',slots:=#[] }->EP X AH σ Q (.ref s.heap.objs.size) { s with heap:=h' }:=λits r' hz h' c' kp e=>
  ⟨.ref s.heap.objs.size,_,I.laid (t':=s.toks) kp (Nat.le_refl _) (show Dg X.prog X.w _ h' _ (.lst ys)from⟨hz,its,c',r',e⟩),rfl,q _ (I.A2.fresh (Nat.le_refl _))⟩
 rcases hq with hq|hq
 ·obtain⟨its,r',pl,hz⟩:=I.list hq;have CO:=r'.length;obtain⟨o,ho,hc,n,hd⟩:=pl.isList;exact call_list_seq p (.inl rfl) ho hc hd (λh' c' kp e=>fin its r' hz h' c' kp e) (by simp only[List.size_toArray]<;>omega)
 ·obtain⟨its,r',pl,hz⟩:=I.tuple hq;have CO:=r'.length;obtain⟨o,ho,hc,n,hd⟩:=pl;exact call_list_seq p (.inr rfl) ho hc hd (λh' c' kp e=>fin its r' hz h' c' kp e) (by simp only[List.size_toArray]<;>omega)
def dD(K:PySem.W.Frag)(T:String)(x:V)(H:Hp):Prop:=match x with
 |.str _=>T = "str"
 |.int _=>T = "int"
 |.ref p=>(T = "list"/\∃xs,DH K H p xs)\/(T = "tuple"/\∃o,K.lookup p=some o/\o.cls=.type "tuple"/\o.dict=none)\/
  (T = "dict"/\((∃Bi,H p=some (.dK Bi))\/∃Bi,H p=some (.dT Bi)))\/(T = "set"/\∃S n,H p=some (.set S n))
 |_=>False
theorem u3{AH:List (Addr×Obj)}{σ:St}{H:Hp}{s:Shared}{T:String}{x:V}{v:Value}(I:Inv X AH σ H s)(r:RelV x v)(ty:dD X.K T x H) : s.TypeIs v T/\∀a,v=.ref a->∃ob,s.heap.get? a=some ob/\ob.dict=none:=by
 cases x with
 |str z=>
  obtain⟨t,rfl⟩:=r;cases (show T = "str" from ty);exact⟨typeIs_str s z t,λ_ e=>nomatch e⟩
 |int i=>
  obtain⟨t,rfl⟩:=r;cases (show T = "int" from ty);exact⟨typeIs_int s i t,λ_ e=>nomatch e⟩
 |ref p=>
  cases r;rcases ty with⟨rfl,xs,hq⟩|⟨rfl,o,hk,hc,hd⟩|⟨rfl,hk⟩|⟨rfl,S,n,hk⟩
  ·obtain⟨its,_,pl,_⟩:=I.list hq;refine⟨pl.isList.typeIs,λa e=>?_⟩;cases e;obtain⟨o,n,e,c,hd,_⟩:=pl;exact⟨o,e,hd⟩
  ·refine⟨⟨o,I.Bl p o hk,hc⟩,λa e=>?_⟩;cases e;exact⟨o,I.Bl _ o hk,hd⟩
  ·have z:∃o,s.heap.get? p=some o/\o.ExactDict:=by
    rcases hk with⟨Bi,hk⟩|⟨Bi,hk⟩
    ·obtain⟨_,_,_,_,o,_,_,e,ex,_⟩:=I.A2 p _ hk;exact⟨o,e,ex⟩
    ·obtain⟨_,_,_,_,o,_,_,e,ex,_⟩:=I.A2 p _ hk;exact⟨o,e,ex⟩
   obtain⟨o,e,ex⟩:=z;refine⟨⟨o,e,ex.1⟩,λa e2=>?_⟩;cases e2;exact⟨o,e,ex.2.1⟩
  ·obtain⟨o,_,_,_,e,ex,_⟩:=I.A2 p _ hk;refine⟨⟨o,e,ex.1⟩,λa e2=>?_⟩;cases e2;exact⟨o,e,ex.2.1⟩
 |_=>exact False.elim ty
def cg(K:PySem.W.Frag)(T:String)(r:V->List V->Hp->VK->Prop)(to:TE)(t:TA):TE:=λσ H Q=>to σ H λx H1=>dD K T x H1/\t σ H1 λxs H2=>r x xs H2 Q
variable{o e:Expr}{es:List Expr}{to:TE}{t:TA}{name:Str}{apos C2:Pos}{T id:String}{r:V->List V->Hp->VK->Prop}
theorem aZ(pa:PlainAttrs T)(slot:Slot T name id)(ll:typeOf (.builtin id)=pure (.type "method_descriptor"))(hm:fE X id r)(ho:PE X o to)(ha:PA X (e::es) t) (NB:attributeBase o name X.env (eval o X.env)=eval o X.env:=by rfl) (JB:((backTo C2 (starEach (e::es) X.env)).all (λx=>!x.1)&&(backToKw C2 (keywordEach [] X.env)).all (λx=>x.1.isSome)
  && decide ((e::es).length+([]:List Keyword).length+(if([]:List Keyword).isEmpty then 0 else 1)<30))=true:=by rfl)
 (NM:(apos.endLine==C2.line)=true:=by rfl) (hs:starEach (e::es) X.env=(false,eval e X.env)::starEach es X.env:=by rfl) (NS:(backTo C2 (starEach es X.env)).any (·.1)=false:=by rfl) :
 PE X (.Call (.Attribute o name apos) (e::es) [] C2) (cg X.K T r to t):=by
 intro AH s σ H Q I h;refine wpAny_Call_method_late NB JB NM rfl (Au (ho AH s σ H _ I h) λv s1 ⟨x,H1,I1,r1,ty,q1⟩=>?_);obtain⟨h1,h2⟩:=u3 I1 r1 ty;refine⟨T,id,pa,slot,ll,h1,h2,?_⟩;have hA:=ha C2 AH s1 σ H1 _ I1 q1;rw[hs]at hA ⊢;refine Calls.callWith_builtin (by show(false||(backTo C2 (starEach es X.env)).any (·.1))=false;rw[NS]<;>rfl) (Calls.evalArgs_plain ?_);exact Au hA λus s2 ⟨vs,H2,I2,r2,q2⟩=>hm AH s2 σ H2 x vs v us Q I2 r1 r2 q2
end
def WH(X:Cx)(id:String)(r:V->List V->Hp->VK->Prop):Prop:=
 ∀(AH:List (Addr×Obj))(s:Shared)(σ:St)(H:Hp)(x:V)(xs:List V)(v:Value)(us:List Value)(Q:VK),Inv X AH σ H s->RelV x v->BA xs us->r x xs H Q->wpAny (model X.prog X.w) X.A (call (.builtin id) (v::us)) (EP X AH σ Q) X.xe s
theorem BA.one:∀{x:V}{us:List Value},BA [x] us->∃u,us=[u]/\RelV x u
 |_,_,.cons r .nil=>⟨_,rfl,r⟩
theorem BA.reverse{xs:List V}{us:List Value}(h:BA xs us):BA xs.reverse us.reverse:=by
 induction h with
 |nil=>exact .nil
 |cons r t ih=>rw[List.reverse_cons,List.reverse_cons];exact BA.append ih (.cons r .nil)
section
variable{X:Cx}{AH:List (Addr×Obj)}{σ:St}{H:Hp}{s:Shared}{l b:Addr}{xs ys zs:List V}
theorem Inv.Zt{its its':List Value}{n:Nat}{f:Array Value->Array Value}{t':Nat}(I:Inv X AH σ H s)(hH:H l=some (.lst xs)) (e:s.heap.get? l=some { cls:=.type "list",data:=.seq its.toArray n }) (hf:f its.toArray=its'.toArray) (hv:BA ys its') (hz:ys.length<=sizeLine) : Inv X AH σ (upd H l (.lst ys)) { s with heap:=s.heap.update l (Obj.mapSeq f),toks:=t' }:=by
 have q:=PySem.IsL.update e f;rw[hf]at q;refine I.write (x:=l) (e:=l) (by rw[hH];exact trivial) (.inl rfl) (λb' u hb hu=>(Heap.get?_update_other s.heap (Obj.mapSeq f) (Ne.symm hb)).trans hu) ⟨_,q⟩ ?_;exact⟨hz,its',_,hv,q⟩
theorem Inv.nP{its:List Value}{t':Nat}(I:Inv X AH σ H s)(hv:BA ys its)(hz:ys.length<=sizeLine) : Inv X AH σ (upd H s.heap.objs.size (.lst ys)) { s with heap:=s.heap.push { cls:=.type "list",data:=.seq its.toArray },toks:=t' }:=
 I.laid (λ_ _ q=>Heap.get?_push_of_some _ q) (Nat.le_refl _) ⟨hz,its,0,hv,Heap.get?_push_size _ rfl⟩
theorem Inv.fresh(I:Inv X AH σ H s):H s.heap.objs.size=none:=I.A2.fresh (Nat.le_refl _)
theorem Inv.Zu(I:Inv X AH σ H s)(hH:H l=some (.lst xs)):xs.length<=sizeLine/\∃(its:List Value)(n:Nat),BA xs its/\xs.length=its.length/\s.heap.get? l=some { cls:=.type "list",data:=.seq its.toArray n }:=by
 obtain⟨z,its,n,r,e⟩:=I.A2 l _ hH;exact⟨z,its,n,r,r.length,e⟩
theorem oB{n:Nat}(h:n<=sizeLine):Builtin.List.listTooLong n=false:=by
 unfold Builtin.List.listTooLong;exact decide_eq_false (by omega)
end
section
variable{X:Cx}
def bO:V->List V->Hp->VK->Prop:=λx vs H Q=>∃l xs y,x=.ref l/\vs=[y]/\H l=some (.lst xs)/\xs.length<sizeLine/\Q .Bq (upd H l (.lst (xs ++ [y])))
theorem Z2:WH X "list.append" bO:=by
 intro AH s σ H x vs v us Q I rx rv h;obtain⟨l,xs,y,rfl,rfl,hH,hz,q⟩:=h;cases rx;obtain⟨u,rfl,ru⟩:=rv.one;obtain⟨z,its,n,r,hl,e⟩:=I.Zu hH;refine call_meets F.slot_list_append ⟨_,e,rfl⟩ F.entry_list_append (F.args_list_append_2 _ _) (PySem.list_append l its.toArray n u (by rw[List.size_toArray];omega)) ⟨e,?_⟩;refine⟨.Bq,_,I.Zt (its':=its ++ [u]) hH e (by simp) (r.append (.cons ru .nil)) ?_,rfl,q⟩;rw[List.length_append,List.length_singleton];omega
end
section
variable{prog:Program}{w:World}{A:Around}{E:Value->Shared->Prop}{s:Shared}
end
section
variable{X:Cx}
end
end L2
namespace V2
open PySem PySem.W PySem.Calls PyProof.Rows
theorem mL{P:Params}{h:Heap}:∀(ns:List Int)(vs:List Value),WellAll P h vs (ns.map WData.int)->IntsAre vs ns:=by
 intro ns
 induction ns with
 |nil=>
  intro vs w;rw[List.map_nil]at w;cases w;exact .nil
 |cons n ns ih=>
  intro vs w;rw[List.map_cons]at w;cases w with
  |cons a b=>
   cases a;exact .cons _ _ (ih _ b)
theorem sf{l:OpenLaw}{n:Nat}(hn:l.most=some n){P:Params}{h:Heap}{args:List WData}{vals:List Value} (Pk:l.row.toRowW.claim.pre args=true) (FX:WellAll P h vals args) : ∃a vs ns,vals=[Value.ref a]/\args=[WData.list (ns.map WData.int)]/\h.get? a=some { cls:=.type "list",data:=.seq vs.toArray }/\IntsAre vs ns/\ns.length<=n:=by
 have BV:WShape.hasAll [] args [.list .int]=true:=(pre_splitW Pk).1;have hc:l.pre.holds [] { args:=args }=true:=(pre_splitW Pk).2;obtain⟨d,r,rfl,h1,h2⟩:=hasAllW_cons BV;obtain rfl:=hasAllW_nil h2;obtain⟨xs,rfl,h3⟩:=hasW_list h1;obtain⟨ns,rfl⟩:=items_int h3;have CO:ns.length<=n:=by
  unfold OpenLaw.pre at hc;have h4:(WTm.not (.lt (.lit (.int (n:Int))) (.len (.arg 0)))).holds [] { args:=[.list (ns.map .int)] }=true:=by
   have h4:=(holds_andW hc).1;rw[hn]at h4;exact h4
  have h5:=condW_of h4 (w_not (w_lt w_lit (w_len_list (w_arg rfl))));rw[List.length_map]at h5;refine Nat.le_of_not_lt λq=>?_;have q':(n:Int)<((ns.length:Nat):Int):=by omega
  first
   |(rw[decide_eq_true q']at h5;exact absurd h5 (by decide))
   |(simp at h5;omega)
 cases FX with
 |cons w1 w2=>
  cases w2;cases w1 with
  |list ho CB=>exact⟨_,_,ns,rfl,rfl,ho,mL ns _ CB,CO⟩
theorem qp(l:OpenLaw)(args:List WData):l.row.toRowW.claim.post args (.bool true) args=true:=
 postW_of (r:=l.row.toRowW) (X:=(true==true)) (show WShape.has [] (.bool true) .bool=true by first|rfl|decide|simp[WShape.has,WShape.arms,WShape.armsAll]) (show(WTm.eq .res (.lit (.bool true))).value [] { args:=args,res:=some (.bool true),after:=args }=some (.bool (true==true))from w_eq_bool (w_res rfl) w_lit) rfl
theorem fZ{l:OpenLaw}{n:Nat}{q:Program}{loose:List Str}{XP:(Str->Option Value)->Heap->Prop}{YP:World->Heap->Prop}{d:DefRec} (hn:l.most=some n) (ND:d.params.defaults=[]) (call:∀(w:World)(DM Bo:Shared)(mg mb:Str->Option Value)(fa:Addr)(o:Obj)(pm cd doc:Value)(a:Addr)(vs:List Value)(ns:List Int),
  Ground q loose [] XP w DM mg mb Bo.heap->YP w Bo.heap->
  Bo.heap.get? fa=some o->o.data=.func (docDef d.name d.params d.body d.scope pm cd doc)->Bo.heap.CodeRec cd d.name->mg d.name=some (.ref fa)->
  Bo.heap.get? a=some { cls:=.type "list",data:=.seq vs.toArray }->IntsAre vs ns->ns.length<=n->Bo.gens=#[]->
  codeAny (model l.prog w) callerA (.call (.ref fa) ⟨[.ref a],[]⟩) (λr s'=>r=.ok (.ret (.bool true))/\OldK Bo.heap s'.heap/\s'.os=Bo.os/\AllBare s'.gens) Bo) :
 WalkO q loose XP YP l.row.toRowW d [] (λf vs=>PySem.call f vs):=by
 intro w DM Bo mg mb G Y fa o pm cd doc dV kV ho hd C3 hD hmg hg args vals as Pk xc xi FX lD;obtain rfl:dV=.none:=Dflts.none hD ND;obtain rfl:kV=.none:=Dflts.noKw hD;obtain⟨a,vs,ns,rfl,rfl,To,hints,CO⟩:=sf hn Pk FX;refine enter_call (codeAny_mono (call w DM Bo mg mb fa o pm cd doc a vs ns G Y ho (fd_plain hd) C3 hmg To hints CO hg) λr s' hq=>?_);obtain⟨rfl,h2,h3,h4⟩:=hq;exact⟨.inl ⟨.bool true,.bool true,[],rfl,λ_=>rfl,.bool true,qp l _,λ_=>⟨List.Pairwise.nil,λ_ hm=>(nomatch hm)⟩⟩,h2,h3,h4⟩
section
variable{prog:Program}{w:World}{A:Around}{E:Value->Shared->Prop}{s:Shared}{K:Frag}
end
end V2
namespace L2
open PySem PySem.Spec PyProof.Rows
theorem dN:∀{vs:List Value}{ns:List Int},IntsAre vs ns->BA (ns.map V.int) vs
 |_,_,.nil=>.nil
 |_,_,.cons n t h=>.cons ⟨t,rfl⟩ (dN h)
def RU(H:Hp):Prop:=∀b,H b=none\/∃o xs,H b=some (.Em o (.lst xs))
theorem nF{P:Program}{w:World}{K:PySem.W.Frag}{mg mb:Str->Option Value}{CX:FI}{k:Nat}{fa a:Addr}{fd:FuncData}{x:Str}{sp:Sp}{Bo:Shared}{vs:List Value}{ns:List Int} (KX:K.In Bo.heap) (Tj:Bo.heap.Ns mainGlobals mg) (hb:Bo.heap.Ns builtinsNs mb) (kU:∀x:Str,x≠"__name__"->mb x=bootBuiltins x) (lC:Bo.heap.NoLimit) (hg:Bo.gens=#[]) (ha:Bo.heap.get? a=some { cls:=.type "list",data:=.seq vs.toArray }) (hi:IntsAre vs ns) (hl:ns.length<=sizeLine) (hr:DG k callerA) (F:∀base:Heap,K.In base->base.Ns mainGlobals mg->Dp P w K mg base CX k fa fd [x] sp) (kW:∀(s:Shared)(u:Value),BindsTo s fd ⟨[u],[]⟩ [(x,u)]) (F5:∀H:Hp,RU H->DH K H a (ns.map V.int)->sp [.ref a] H (λv _=>v=.bl true) λ_ _ _=>False)
 (TJ:∀H e s',CX [] H Bo (λ_ _ _=>False) e s'->False) :
 codeAny (model P w) callerA (.call (.ref fa) ⟨[.ref a],[]⟩) (λr s'=>r=.ok (.ret (.bool true))/\OldK Bo.heap s'.heap/\s'.os=Bo.os/\AllBare s'.gens) Bo:=by
 have rv:=dN hi;have nH:=hi.length;have core:∀H:Hp,RU H->DH K H a (ns.map V.int)->Cv P w H Bo.heap->(∀b,H b≠none->b=a)->(H a≠none->K.lookup a=none)->codeAny (model P w) callerA (.call (.ref fa) ⟨[.ref a],[]⟩) (λr s'=>r=.ok (.ret (.bool true))/\OldK Bo.heap s'.heap/\s'.os=Bo.os/\AllBare s'.gens) Bo:=by
  intro H hO hS A2 hA hK;have WS:∀{b:Addr}{o:Obj},Bo.heap.get? b=some o->H b=none->(ID Bo.heap H).get? b=some o:=λe n=>kv e n;have Np:∀{b:Addr}{o:Obj}{es:Array DictEntry}{ep:Nat},Bo.heap.get? b=some o->o.data=.dict es ep->H b=none:=λ{b o es ep} e d=>by
   cases q:H b with
   |none=>rfl
   |some u=>
    have e':b=a:=hA b (by rw[q];simp);subst e';rw[ha]at e;cases e;have d':Data.seq vs.toArray _=Data.dict es ep:=d;cases d'
  have QH:∀{b:Addr}{m:Str->Option Value},Bo.heap.Ns b m->(ID Bo.heap H).Ns b m:=λ{b m} ⟨o,es,ep,e,d,r⟩=>⟨o,es,ep,WS e (Np e d),d,r⟩;have YZ:K.In (ID Bo.heap H):=λb o e=>WS (KX b o e) (by
   cases q:H b with
   |none=>rfl
   |some u=>
    have e':b=a:=hA b (by rw[q];simp);subst e';rw[hK (by rw[q];simp)]at e;cases e)
  have hM:Mod K mg (ID Bo.heap H):=⟨YZ,QH Tj,⟨mb,QH hb,kU⟩,let ⟨mc,h1,h2⟩:=lC;⟨mc,QH h1,h2⟩⟩;have e0:MO P w K mg (ID Bo.heap H) callerA [] Bo H:=⟨rfl,hM,λb o e=>oG e,Nat.le_of_eq (kx _ _),trivial,λb hb=>absurd (show b∈([]:List Addr)from hb) (by simp),A2,.of_eq hg⟩;refine codeAny_mono ((F _ YZ (QH Tj)).run callerA [] Bo H ⟨[.ref a],[]⟩ [.ref a] [.ref a] _ _ hr e0 (kW Bo (.ref a)) (.cons rfl .nil) (F5 H hO hS)) λr s' h=>?_;cases r with
  |error e=>exact(TJ H e s' h).elim
  |ok fl=>
   cases fl with
   |next=>exact False.elim h
   |brk=>exact False.elim h
   |cont=>exact False.elim h
   |ret u=>
    obtain⟨v,H',os,bare,un,Tp,r',q⟩:=h;have q':v=.bl true:=q;subst q';obtain rfl:u=Value.bool true:=r';refine⟨rfl,OldK.of_keep λb o e=>?_,os,bare⟩;cases q:H b with
    |none=>exact un.keep b o e q (by intro z;exact absurd (show b∈([]:List Addr)from z) (by simp)) (by simp)
    |some u=>
     rcases hO b with z|⟨ob,xs,z⟩
     ·rw[q]at z;cases z
     ·have z2:=un.IB b ob _ z;obtain⟨e1,_⟩:=A2 b _ z;obtain⟨e2,_⟩:=Tp b _ z2;rw[e]at e1;cases e1;exact e2
 cases hk:K.lookup a with
 |some o=>
  have e:=KX a o hk;rw[ha]at e;cases e;refine core (λ_=>none) (λ_=>.inl rfl) (.inr ⟨_,vs.toArray,_,hk,rfl,rfl,rfl,by rw[List.size_toArray,nH];exact hl,by simpa using rv⟩) (λb u z=>by have z':(none:Option HO)=some u:=z;cases z') (λb z=>absurd rfl z) λz=>absurd rfl z
 |none=>
  refine core (λb=>if b=a then some (.Em { cls:=.type "list",data:=.seq vs.toArray } (.lst (ns.map V.int)))else none) (λb=>?_) (.inl (.inr ⟨{ cls:=.type "list",data:=.seq vs.toArray },if_pos rfl⟩)) (λb u z=>?_) (λb z=>?_) λ_=>hk
  ·by_cases hb:b=a
   ·exact .inr ⟨_,_,if_pos hb⟩
   ·exact .inl (if_neg hb)
  ·by_cases hb:b=a
   ·have z':=(if_pos hb).symm.trans z;cases z';subst hb;exact⟨ha,by rw[List.length_map];exact hl,vs,_,rv,ha⟩
   ·have z':=(if_neg hb).symm.trans z;cases z'
  ·by_cases hb:b=a
   ·exact hb
   ·exact absurd (if_neg hb) z
theorem wZ{l:PySem.W.OpenLaw}{n k:Nat}{q:Program}{loose:List Str}{XP:(Str->Option Value)->Heap->Prop}{YP:World->Heap->Prop}{d:DefRec}{K:Params->PySem.W.Frag}{CX:World->FI}{sp:World->Sp}{x:Str} (hn:l.most=some n) (Pj:n<=sizeLine) (ND:d.params.defaults=[]) (hr:DG k callerA) (hY:∀(w:World)(h:Heap),YP w h->(K w.params).In h) (F:∀(w:World)(mg:Str->Option Value)(fa:Addr)(h:Heap),(K w.params).In h->h.Ns mainGlobals mg->mg d.name=some (.ref fa)->
  ∃fd:FuncData,(∀(s:Shared)(u:Value),BindsTo s fd ⟨[u],[]⟩ [(x,u)])/\∀base:Heap,(K w.params).In base->base.Ns mainGlobals mg->Dp l.prog w (K w.params) mg base (CX w) k fa fd [x] (sp w))
 (F5:∀(w:World)(H:Hp)(a:Addr)(ns:List Int),ns.length<=n->RU H->DH (K w.params) H a (ns.map V.int)->sp w [.ref a] H (λv _=>v=.bl true) λ_ _ _=>False)
 (TJ:∀(w:World)(H:Hp)(s:Shared)(e:Value)(s':Shared),CX w [] H s (λ_ _ _=>False) e s'->False) :
 PySem.W.WalkO q loose XP YP l.row.toRowW d [] (λf vs=>PySem.call f vs):=by
 refine V2.fZ hn ND λw DM Bo mg mb fa o pm cd doc a vs ns G Y ho hd C3 hmg To hints CO hg=>?_;have KX:=hY w _ Y;obtain⟨fd,hb,hF⟩:=F w mg fa _ KX G.T.g hmg;exact nF KX G.T.g G.T.b G.T.builtins G.T.nolimit hg To hints (Nat.le_trans CO Pj) hr hF hb (λH hO hS=>F5 w H a ns CO hO hS) λH e s'=>TJ w H Bo e s'
def Hw(s:Stmt):Arguments:=match s with
 |.FunctionDef _ a _ _ _ _ _ _ _ _=>a
 |_=>{ posonlyargs:=[],args:=[],vararg:=none,kwonlyargs:=[],kw_defaults:=[],kwarg:=none,defaults:=[] }
def Ga(s:Stmt):List Stmt:=match s with
 |.FunctionDef _ _ b _ _ _ _ _ _ _=>b
 |_=>[]
def Bg(s:Stmt):Scope:=match s with
 |.FunctionDef _ _ _ _ _ _ sc _ _ _=>sc
 |_=>{ kind:=.function,names:=[],isGenerator:=false,isCoroutine:=false }
abbrev Ez:FI:=λ_ _ _ _ _ _=>False
abbrev E0:XK:=λ_ _ _=>False
theorem aW{X:Cx}:Passes Ez X E0:=λ_ _ _ _ _ _ _ h=>h.elim
structure Fq(K:PySem.W.Frag)(x qual:Str)(st:Stmt)(f:Addr)(fd:FuncData):Prop where
 ex:∃(oc:Value)(od:Option Addr)(kV doc pm:Value)(an:Option Addr)(Be ct:Value)(IK:Array (Option Value)),fd=PySem.W.fnOf x qual (Hw st) (Ga st) (Bg st) .none kV doc pm an Be ct/\K.lookup f=some ⟨oc,od,.func fd,IK⟩/\PySem.W.codeIn K Be qual=true
 kp:PySem.W.keepIn K (.ref f)=true
section
variable{P:Program}{w:World}{K:PySem.W.Frag}{mg:Str->Option Value}{base:Heap}
theorem Fq.ok{x qual:Str}{st:Stmt}{f:Addr}{fd:FuncData}{N ps:List Str}{k:Nat}{sp:Sp}(F:Fq K x qual st f fd)(S:MX N ps (Bg st))(len:∀vs H Q E,sp vs H Q E->vs.length=ps.length) (NC:∀(Be:Value)(A:Around)(outer:List Env)(s:Shared)(H:Hp)(vs:List V)(Q:VK)(E:XK),DG k (A.deeper (envOfC qual (Bg st) s.heap.objs.size f Be))->sp vs H Q E->
  ∃t,D4 (Hv Ez P w K mg base N qual (Bg st) f Be A outer s H E).Kc (Ga st) t/\t { nx:=λ_ H'=>Q .Bq H',rt:=Q } (start N vs) H):Dp P w K mg base Ez (k+1) f fd ps sp:=by
 obtain⟨oc,od,kV,doc,pm,an,Be,ct,IK,rfl,lk,C3⟩:=F.ex;refine jf lk C3 S len λA outer s H vs Q E hr F5=>?_;obtain⟨t,h,q⟩:=NC Be A outer s H vs Q E hr F5;exact⟨t,h.Kc,q⟩
theorem Fq.binds{x qual:Str}{st:Stmt}{f:Addr}{fd:FuncData}{ps:List Str}(F:Fq K x qual st f fd) (h:∀(kV doc pm:Value)(an:Option Addr)(Be ct:Value)(us:List Value),us.length=ps.length->bindArgs (PySem.W.fnOf x qual (Hw st) (Ga st) (Bg st) .none kV doc pm an Be ct) ⟨us,[]⟩=pure (ps.zip us)):Binds K fd ps []:=by
 obtain⟨oc,od,kV,doc,pm,an,Be,ct,IK,rfl,lk,C3⟩:=F.ex;exact .all (h kV doc pm an Be ct)
theorem jm{x qual:Str}{st:Stmt}{f:Addr}{oc:Value}{od an:Option Addr}{IK:Array (Option Value)}{kV doc pm Be ct:Value}(l:K.lookup f=some ⟨oc,od,.func (PySem.W.fnOf x qual (Hw st) (Ga st) (Bg st) .none kV doc pm an Be ct),IK⟩) (c:PySem.W.codeIn K Be qual=true) (k:PySem.W.keepIn K (.ref f)=true):Fq K x qual st f (PySem.W.fnOf x qual (Hw st) (Ga st) (Bg st) .none kV doc pm an Be ct):=⟨⟨oc,od,kV,doc,pm,an,Be,ct,IK,rfl,l,c⟩,k⟩
end
theorem cJ{n:Nat}(h:n<=1000):n<sizeLine:=Nat.lt_of_le_of_lt h (by decide)
section
variable{X:Cx}
theorem pv(i:Nat){x:Str}{pos:Pos}(hN:X.N[i]? = some x:=by rfl)(hv:Ia X.env.scope x:=by first|exact Or.inl rfl|exact Or.inr (Or.inl rfl)|exact Or.inr (Or.inr rfl))(hd:(x==("__debug__" : Str))=false:=by decide) (C3:(x==("__classdict__" : Str))=false:=by decide):PE X (.Name x pos) (Vj i):=Nx hN hv hd C3
end
theorem HY{A B:Prop}(h:B):if false=true then A else B:=by
 rw[if_neg Bool.false_ne_true];exact h
theorem HZ{A B:Prop}(h:A):if true=true then A else B:=by
 rw[if_pos rfl];exact h
def A4(H H':Hp):Prop:=∀b o,H b=some o->H' b=some o
theorem A4.refl(H:Hp):A4 H H:=λ_ _ h=>h
theorem A4.trans{H H1 H2:Hp}(a:A4 H H1)(b:A4 H1 H2):A4 H H2:=λc o h=>b c o (a c o h)
theorem A4.free{H H':Hp}(e:A4 H H'){l:Addr}(h:H' l=Option.none):H l=Option.none:=by
 cases q:H l with
 |none=>rfl
 |some o=>
  rw[e l o q]at h;cases h
theorem A4.seq{K:PySem.W.Frag}{H H':Hp}{a:Addr}{xs:List V}(e:A4 H H')(h:DH K H a xs):DH K H' a xs:=by
 rcases h with(h|⟨o,h⟩)|h
 ·exact .inl (.inl (e _ _ h))
 ·exact .inl (.inr ⟨o,e _ _ h⟩)
 ·exact .inr h
section
variable{κ:Type}[DecidableEq κ]
end
section
variable{P:Program}{w:World}{H:Hp}{h:Heap}{a:Addr}
end
section
variable{X:Cx}{AH:List (Addr×Obj)}{σ:St}{H:Hp}{s:Shared}{a:Addr}{y v:V}{u r:Value}{o:Option V}{A:Around}{E:Value->Shared->Prop}
end
section
variable{X:Cx}{AH:List (Addr×Obj)}{σ:St}{H:Hp}{s:Shared}{a:Addr}{Bi:List (Key×V)}{k:Key}{u:Value}{A:Around}{E:Value->Shared->Prop}
end
section
variable{X:Cx}{o i e value:Expr}{pos pos' uZ:Pos}{td ty tv:TE}
end
section
variable{X:Cx}{pos:Pos}
end
end L2
set_option linter.all false
namespace L2
open PySem
def Du(cells:List (Str×Addr)):List (Str×NameKind)->List (Str×Addr)->List (Str×Addr)
 |[],acc=>acc
 |(n,k)::r,acc=>if(k==NameKind.free)=true then(match cells.lookup n with|some c=>Du cells r ((n,c)::acc)|none=>Du cells r acc)else Du cells r acc
theorem Wl{scope:Scope}{env:Env}(h:∀y∈scope.names,y.2=.free->∃c,env.cells.lookup y.1=some c):closureFor scope env=pure (Du env.cells scope.names []):=by
 simp only[closureFor];generalize ([]:List (Str×Addr))=acc;revert h acc;generalize scope.names=l
 induction l with
 |nil=>intro h acc;simp[Du]
 |cons x r ih=>
  intro h acc;obtain⟨n,k⟩:=x;rw[List.forIn_cons];by_cases hk:(k==NameKind.free)=true
  ·have CC:k=.free:=by simpa using hk
   obtain⟨c,hc⟩:=h (n,k) (List.mem_cons_self) CC;have HU:cellOf env n=pure c:=by unfold cellOf;rw[show env.cells.lookup n=some c from hc]
   simp only[Du,hk,if_true,HU,pure_bind];rw[show List.lookup n env.cells=some c from hc];exact ih (λy hy=>h y (List.mem_cons_of_mem _ hy)) _
  ·simp only[Du,hk,if_false,pure_bind,Bool.false_eq_true];exact ih (λy hy=>h y (List.mem_cons_of_mem _ hy)) _
theorem Hu{cells:List (Str×Addr)}:∀{l:List (Str×NameKind)}{acc:List (Str×Addr)}{x:Str}{c:Addr},(∀y d,acc.lookup y=some d->cells.lookup y=some d)->(Du cells l acc).lookup x=some c->cells.lookup x=some c
 |[],acc,x,c,ha,h=>ha x c h
 |(n,k)::r,acc,x,c,ha,h=>by
  unfold Du at h;split at h
  ·split at h
   ·rename_i d hd;refine Hu (l:=r) (acc:=(n,d)::acc) (λy e hy=>?_) h;rw[List.lookup_cons]at hy;split at hy
    ·rename_i lz;have:y=n:=by simpa using lz
     subst this;rw[hd];exact hy
    ·exact ha y e hy
   ·exact Hu (l:=r) ha h
  ·exact Hu (l:=r) ha h
theorem gh{prog:Program}{w:World}{A:Around}{R:Result->Shared->Prop}{s:Shared}{elt MF iter:Expr}{ifs:List Expr}{scope:Scope}{pos:Pos}{it acc:Value}{env:Env}(I:Nat->Shared->Prop) (turn:∀n s,I n s->wpAny (model prog w) A (pyNext it) (λr Bo=>match r with
  |none=>R (.ok .next) Bo
  |some v=>wpAny (model prog w) A (letOwnedTupleGo MF it v) (λ_ cX=>wpAny (model prog w) A (assign MF env v) (λ_ Q3=>
   wpAny (model prog w) A (forIn ifs true λc r=>if r=true then do let ok<-isTrue c env (eval c env);pure (ForInStep.yield ok)else pure (ForInStep.yield r)) (λok OK=>
    if ok=true then wpAny (model prog w) A (eval elt env) (λx Q4=>
     wpAny (model prog w) A (call (.builtin "list.append") [acc,x]) (λ_ cY=>∃m,m<n/\I m cY) (λ_ _=>False) Q4) (λ_ _=>False) OK
    else ∃m,m<n/\I m OK) (λ_ _=>False) Q3) (λ_ _=>False) cX) (λ_ _=>False) Bo) (λ_ _=>False) s)
 (n:Nat) (h:I n s) :
 codeAny (model prog w) A (.compLoop (.ListComp elt [⟨MF,iter,ifs,0⟩] scope pos) 0 it acc env) R s:=by
 refine codeAny_loop rfl I (λn s hI=>?_) n h;show wpAny _ A ((compTurn (.ListComp elt [⟨MF,iter,ifs,0⟩] scope pos) 0 it acc env).onRaise (λx=>do noteFrame x env;theTreesLotGoes x)) _ _ s;refine wpAny_noted ?_;rw[compTurn_list];refine wpAny_bind (wpAny_standAt (wpAny_bind (wpAny_mono (turn n s hI) (λr Bo JJ=>?_) λ_ _ h'=>False.elim h')));cases r with
 |none=>exact wpAny_pure JJ
 |some v=>
  refine wpAny_bind (wpAny_mono JJ (λ_ cX l5=>?_) λ_ _ h'=>False.elim h');refine wpAny_bind (wpAny_mono l5 (λ_ Q3 l6=>wpAny_bind (wpAny_mono l6 (λok OK ZF=>?_) λ_ _ h'=>False.elim h')) λ_ _ h'=>False.elim h');cases ok with
  |false=>exact wpAny_pure ⟨rfl,ZF⟩
  |true=>
   exact wpAny_bind (wpAny_bind (wpAny_mono ZF (λx Q4 l7=>wpAny_bind (wpAny_mono l7 (λ_ cY l8=>wpAny_pure (wpAny_pure ⟨rfl,l8⟩)) λ_ _ h'=>False.elim h')) λ_ _ h'=>False.elim h'))
end L2
set_option linter.all false
namespace ST
open PySem PySem.SetTable
theorem Wo(l:List Nat)(j:Nat):l.countP (· < j)<=l.length:=List.countP_le_length
theorem OD:∀(l:List Nat)(j:Nat),l.Pairwise (· < ·)->∀i (h:i<l.length),(l[i]<j↔i<l.countP (· < j))
 |[],_,_,i,h=>by simp at h
 |x::r,j,hs,i,h=>by
  obtain⟨h1,h2⟩:=List.pairwise_cons.mp hs;by_cases hx:x<j
  ·rw[List.countP_cons_of_pos (by simpa using hx)];cases i with
   |zero=>simp[hx]
   |succ i=>
    have:=OD r j h2 i (by simpa using h);simp only[List.getElem_cons_succ];lia
  ·have CB:∀y∈r,¬ y<j:=λy hy=>by have:=h1 y hy;lia
   have h0:r.countP (· < j)=0:=List.countP_eq_zero.mpr λy hy=>by simpa using CB y hy
   rw[List.countP_cons_of_neg (by simpa using hx),h0];cases i with
   |zero=>simp[hx]
   |succ i=>
    simp only[List.getElem_cons_succ];have:=CB _ (List.getElem_mem (by simpa using h:i<r.length));lia
theorem Ru(xs:Array Nat)(j:Nat)(hs:xs.toList.Pairwise (· < ·)):∀(f lo hi:Nat),hi-lo<=f->hi<=xs.size->lo<=xs.toList.countP (· < j)->xs.toList.countP (· < j)<=hi->below.go xs j f lo hi=xs.toList.countP (· < j)
 |0,lo,hi,h1,h2,h3,h4=>by unfold below.go;lia
 |f+1,lo,hi,h1,h2,h3,h4=>by
  unfold below.go;by_cases B4:lo<hi
  ·rw[if_pos B4];have hm:(lo+hi) / 2<xs.size:=by lia
   have hg:xs.getD ((lo+hi) / 2) j=xs.toList[(lo+hi) / 2]'(by simpa using hm):=by simp[Array.getD,hm]
   have:=OD xs.toList j hs ((lo+hi) / 2) (by simpa using hm);dsimp only;rw[hg];by_cases hc:xs.toList[(lo+hi) / 2]'(by simpa using hm)<j
   ·rw[if_pos hc];exact Ru xs j hs f _ hi (by lia) h2 (by have:=this.mp hc;lia) h4
   ·rw[if_neg hc];exact Ru xs j hs f lo _ (by lia) (by lia) h3 (by have:¬ _:=λz=>hc (this.mpr z);lia)
  ·rw[if_neg B4];lia
theorem Rt(xs:Array Nat)(j:Nat)(hs:xs.toList.Pairwise (· < ·)):below xs j=xs.toList.countP (· < j):=by
 unfold below;exact Ru xs j hs xs.size 0 xs.size (by lia) (Nat.le_refl _) (Nat.zero_le _) (by have:=Wo xs.toList j;simpa using this)
theorem Mg(xs:Array Nat)(j:Nat)(hs:xs.toList.Pairwise (· < ·))(i:Nat)(h:xs[i]? = some j):below xs j=i:=by
 obtain⟨hi,e⟩:=Array.getElem?_eq_some_iff.mp h;rw[Rt xs j hs];have h1:=OD xs.toList j hs i (by simpa using hi);have e':xs.toList[i]'(by simpa using hi)=j:=by simpa using e
 rw[e']at h1;have h2:xs.toList.countP (· < j)<=i:=by lia
 by_cases h3:xs.toList.countP (· < j)=i
 ·exact h3
 ·have hl:xs.toList.countP (· < j)<xs.toList.length:=by rw[Array.length_toList];lia
  have h4:=OD xs.toList j hs _ hl;have h5:xs.toList[xs.toList.countP (· < j)]<xs.toList[i]'(by simpa using hi):=List.pairwise_iff_getElem.mp hs _ _ hl (by simpa using hi) (by lia);rw[e']at h5;lia
theorem cI{t:SetTable}(hs:t.place.toList.Pairwise (· < ·)){i j:Nat}(h:t.place[i]? = some j):t.slot j=.live i:=by
 unfold slot;dsimp only;rw[Mg _ _ hs i h,h];simp
theorem tO{t:SetTable}(hd:t.dummies=#[]){j:Nat}(h:j∉t.place.toList):t.slot j=.empty:=by
 unfold slot;dsimp only;have h1:¬ (t.place[below t.place j]? == some j)=true:=by
  intro z;rw[beq_iff_eq]at z;have:j∈t.place:=Array.mem_of_getElem? z;exact h (by simpa using this)
 rw[if_neg h1];have h2:has t.dummies j=false:=by rw[hd];simp[has]
 rw[h2];simp
theorem mJ(xs:Array Nat)(j:Nat)(hs:xs.toList.Pairwise (· < ·))(hj:j∉xs.toList):(insertAt xs (below xs j) j).toList.Pairwise (· < ·):=by
 rw[SetTable.toList_insertAt,Rt xs j hs];have F5:=OD xs.toList j hs;rw[List.pairwise_append];refine⟨hs.sublist (List.take_sublist _ _),?_,?_⟩
 ·rw[List.pairwise_cons];refine⟨λy hy=>?_,hs.sublist (List.drop_sublist _ _)⟩;obtain⟨k,hk,e⟩:=List.getElem_of_mem hy;rw[List.getElem_drop]at e;rw[List.length_drop]at hk;have:=F5 (xs.toList.countP (· < j)+k) (by lia);have Aw:y≠j:=λz=>hj (z ▸ List.mem_of_mem_drop hy);rw[e]at this;lia
 ·intro a ha b hb;obtain⟨k,hk,e⟩:=List.getElem_of_mem ha;rw[List.getElem_take]at e;rw[List.length_take]at hk;have h1:=F5 k (by lia);rw[e]at h1;have PU:a<j:=h1.mpr (by lia);rcases List.mem_cons.mp hb with rfl|hb
  ·exact PU
  ·obtain⟨k',CC,e'⟩:=List.getElem_of_mem hb;rw[List.getElem_drop]at e';rw[List.length_drop]at CC;have:=F5 (xs.toList.countP (· < j)+k') (by lia);rw[e']at this;lia
def Cj(mask i:Nat):Nat:=runEnd mask i-i
theorem rm(mask i:Nat):Cj mask i<=9:=by unfold Cj runEnd;split<;>lia
def GU(mask:Nat)(p:Probe):Probe:=
 if p.more>0 then { p with j:=p.j+1,more:=p.more-1 }else
 { p with j:=(leap mask p.i p.perturb).1,more:=Cj mask (leap mask p.i p.perturb).1,i:=(leap mask p.i p.perturb).1,perturb:=(leap mask p.i p.perturb).2 }
theorem WM(t:SetTable)(p:Probe):t.advance p=GU t.mask p:=by
 unfold advance GU Cj;split<;>rfl
def tR(mask:Nat)(h:Int):Probe:={ j:=bits h%(mask+1),more:=Cj mask (bits h%(mask+1)),i:=bits h%(mask+1),perturb:=bits h,dummy:=none }
def road(mask:Nat)(h:Int):Nat->Probe
 |0=>tR mask h
 |n+1=>GU mask (road mask h n)
theorem bq(mask:Nat)(h:Int):∀n,(road mask h n).dummy=none
 |0=>rfl
 |n+1=>by
  have:=bq mask h n;unfold road GU;split<;>simpa using this
def Bm(mask:Nat):Nat->Nat×Nat->Nat×Nat
 |0,x=>x
 |n+1,x=>leap mask (Bm mask n x).1 (Bm mask n x).2
def L0(mask:Nat)(h:Int):Nat×Nat:=(bits h%(mask+1),bits h)
theorem Qe(mask:Nat)(h:Int)(r i pt:Nat)(hr:road mask h r=⟨i,Cj mask i,i,pt,none⟩):∀k,k<=Cj mask i->road mask h (r+k)=⟨i+k,Cj mask i-k,i,pt,none⟩
 |0,_=>by simpa using hr
 |k+1,hk=>by
  have ih:=Qe mask h r i pt hr k (by lia);show GU mask (road mask h (r+k))=_;rw[ih];unfold GU;rw[if_pos (by show Cj mask i-k>0;lia)];simp only[Probe.mk.injEq,and_true,true_and];lia
theorem br(mask:Nat)(h:Int):∀n,∃r,r<=10*n/\road mask h r=⟨(Bm mask n (L0 mask h)).1,Cj mask (Bm mask n (L0 mask h)).1,(Bm mask n (L0 mask h)).1,(Bm mask n (L0 mask h)).2,none⟩
 |0=>⟨0,Nat.le_refl _,rfl⟩
 |n+1=>by
  obtain⟨r,hr,e⟩:=br mask h n;have h1:=Qe mask h r _ _ e _ (Nat.le_refl _);have hl:=rm mask (Bm mask n (L0 mask h)).1;refine⟨r+Cj mask (Bm mask n (L0 mask h)).1+1,by lia,?_⟩;show GU mask (road mask h (r+Cj mask (Bm mask n (L0 mask h)).1))=_;rw[h1];unfold GU;rw[if_neg (by show ¬ (Cj mask _-Cj mask _>0);lia)]
  rfl
theorem fj(h:Int):bits h<2 ^ 64:=by
 unfold bits;have h1:(0:Int)<=h%2 ^ 64:=Int.emod_nonneg _ (by decide);have h2:h%2 ^ 64<2 ^ 64:=Int.emod_lt_of_pos _ (by decide);lia
theorem Zb(mask:Nat)(x:Nat×Nat):∀n,(Bm mask n x).2=x.2 / 32 ^ n
 |0=>by simp[Bm]
 |n+1=>by
  unfold Bm leap;dsimp only;rw[Zb mask x n,Nat.div_div_eq_div_mul,Nat.pow_succ]
theorem qW(mask:Nat)(h:Int)(n:Nat)(hn:13<=n):(Bm mask n (L0 mask h)).2=0:=by
 rw[Zb];have h1:=fj h;have h2:2 ^ 64<=32 ^ n:=Nat.le_trans (by decide:2 ^ 64<=32 ^ 13) (Nat.pow_le_pow_right (by decide) hn);exact Nat.div_eq_of_lt (Nat.lt_of_lt_of_le h1 h2)
def AA(mask:Nat):Nat->Nat->Nat
 |0,i=>i
 |n+1,i=>(AA mask n i*5+1)%(mask+1)
theorem Za(mask:Nat)(h:Int):∀n,(Bm mask (13+n) (L0 mask h)).1=AA mask n (Bm mask 13 (L0 mask h)).1
 |0=>rfl
 |n+1=>by
  show(leap mask (Bm mask (13+n) (L0 mask h)).1 (Bm mask (13+n) (L0 mask h)).2).1=_;rw[qW mask h (13+n) (by lia),Za mask h n];show(AA mask n _*5+1+0 / 32)%(mask+1)=(AA mask n _*5+1)%(mask+1);simp
theorem nG(mask:Nat)(h:Int):∀n,(Bm mask n (L0 mask h)).1<mask+1
 |0=>Nat.mod_lt _ (Nat.succ_pos _)
 |n+1=>Nat.mod_lt _ (Nat.succ_pos _)
theorem gz:∀i<8,∀j<8,∃n<8,AA 7 n i=j:=by decide
theorem gy:∀i<32,∀j<32,∃n<32,AA 31 n i=j:=by decide +kernel
def Good(mask:Nat):Prop:=mask=7\/mask=31
theorem Zc{mask:Nat}(hm:Good mask)(h:Int){j:Nat}(hj:j<=mask):∃n,n<turns mask-1/\(Bm mask n (L0 mask h)).1=j:=by
 have hl:=nG mask h 13;have:∃n<mask+1,AA mask n (Bm mask 13 (L0 mask h)).1=j:=by
  rcases hm with rfl|rfl
  ·exact gz _ hl j (by lia)
  ·exact gy _ hl j (by lia)
 obtain⟨n,hn,e⟩:=this;exact⟨13+n,by unfold turns;lia,by rw[Za];exact e⟩
theorem rh{mask:Nat}(hm:Good mask)(h:Int){j:Nat}(hj:j<=mask):∃n,n<10*turns mask/\(road mask h n).j=j:=by
 obtain⟨n,hn,e⟩:=Zc hm h hj;obtain⟨r,hr,er⟩:=br mask h n;exact⟨r,by unfold turns at *;lia,by rw[er];exact e⟩
theorem aB:∀(l1 l2:List Nat),l1.Nodup->(∀x∈l1,x∈l2)->l1.length<=l2.length
 |[],_,_,_=>Nat.zero_le _
 |x::r,l2,hn,hs=>by
  obtain⟨h1,h2⟩:=List.nodup_cons.mp hn;have hx:=hs x List.mem_cons_self;have:=aB r (l2.erase x) h2 λy hy=>(List.mem_erase_of_ne (show y≠x from λz=>h1 (z ▸ hy))).mpr (hs y (List.mem_cons_of_mem _ hy));rw[List.length_erase_of_mem hx]at this;have hp:0<l2.length:=List.length_pos_of_mem hx;rw[List.length_cons];lia
theorem YN(mask:Nat)(L:List Nat)(hn:L.Nodup)(hl:L.length<=mask)(hle:∀j∈L,j<=mask):∃j,j<=mask/\j∉L:=by
 refine Classical.byContradiction λh=>?_;have CB:∀j,j∈List.range (mask+1)->j∈L:=λj hj=>Classical.byContradiction λz=>h ⟨j,by have:=List.mem_range.mp hj;lia,z⟩;have:=aB _ _ (List.nodup_range (n:=mask+1)) CB;rw[List.length_range]at this;lia
theorem jZ{mask:Nat}(hm:Good mask)(h:Int)(L:List Nat)(hn:L.Nodup)(hl:L.length<=mask)(hle:∀j∈L,j<=mask):∃n,n<10*turns mask/\(road mask h n).j∉L/\∀m<n,(road mask h m).j∈L:=by
 obtain⟨j,hj,k5⟩:=YN mask L hn hl hle;obtain⟨n,hn,e⟩:=rh hm h hj;have key:∀k,(∃n,n<k/\(road mask h n).j∉L)->∃n,n<k/\(road mask h n).j∉L/\∀m<n,(road mask h m).j∈L:=by
  intro k
  induction k with
  |zero=>rintro⟨n,hn,_⟩;lia
  |succ k ih=>
   rintro⟨n,hn,e⟩;by_cases hex:∃n,n<k/\(road mask h n).j∉L
   ·obtain⟨n',h1,h2,h3⟩:=ih hex;exact⟨n',by lia,h2,h3⟩
   ·have lM:n=k:=by
     by_cases z:n<k
     ·exact absurd ⟨n,z,e⟩ hex
     ·lia
    subst lM;exact⟨n,hn,e,λm hm=>Classical.byContradiction λz=>hex ⟨m,hm,z⟩⟩
 exact key _ ⟨n,hn,by rw[e];exact k5⟩
end ST
set_option linter.all false
namespace ST
open PySem PySem.SetTable
theorem aw{t:SetTable}(hs:t.place.toList.Pairwise (· < ·))(hd:t.dummies=#[])(hashAt:Nat->Int)(h:Int)(N:Nat)(hN:(road t.mask h N).j∉t.place.toList):∀(f n:Nat),n<=N->N-n<f->(∀m,n<=m->m<N->(road t.mask h m).j∈t.place.toList)->(∃m i,n<=m/\m<N/\t.place[i]? = some (road t.mask h m).j/\hashAt i=h/\(∀k,n<=k->k<m->∀i',t.place[i']? = some (road t.mask h k).j->hashAt i'≠h)/\probe.go t hashAt h f (road t.mask h n)=some (.candidate (road t.mask h m).j i (road t.mask h (m+1))))\/((∀k,n<=k->k<N->∀i',t.place[i']? = some (road t.mask h k).j->hashAt i'≠h)/\probe.go t hashAt h f (road t.mask h n)=some (.empty (road t.mask h N).j none))
 |0,n,_,hf,_=>by lia
 |f+1,n,hn,hf,CB=>by
  by_cases he:n=N
  ·subst he;right;refine⟨λk h1 h2=>by lia,?_⟩;unfold probe.go;rw[tO hd hN];dsimp only;rw[bq]
  ·have HX:=CB n (Nat.le_refl _) (by lia);obtain⟨i,hi⟩:=List.getElem?_of_mem HX;have C4:t.place[i]? = some (road t.mask h n).j:=by simpa using hi
   have Y8:=cI hs C4;have inj:∀i',t.place[i']? = some (road t.mask h n).j->i'=i:=λi' e=>by rw[<-Mg _ _ hs i' e,Mg _ _ hs i C4]
   by_cases hh:hashAt i=h
   ·left;refine⟨n,i,Nat.le_refl _,by lia,C4,hh,λk h1 h2=>by lia,?_⟩;unfold probe.go;rw[Y8];dsimp only;rw[if_pos (by simpa using hh),WM]
    rfl
   ·have step:probe.go t hashAt h (f+1) (road t.mask h n)=probe.go t hashAt h f (road t.mask h (n+1)):=by
     conv=>lhs;unfold probe.go
     rw[Y8];dsimp only;rw[if_neg (by simpa using hh),WM]
     rfl
    rw[step];have Aw:∀i',t.place[i']? = some (road t.mask h n).j->hashAt i'≠h:=λi' e=>by rw[inj i' e];exact hh
    rcases aw hs hd hashAt h N hN f (n+1) (by lia) (by lia) (λm h1 h2=>CB m (by lia) h2)with⟨m,i2,h1,h2,h3,h4,h5,h6⟩|⟨h5,h6⟩
    ·left;refine⟨m,i2,by lia,h2,h3,h4,λk k1 k2=>?_,h6⟩;by_cases kn:k=n
     ·subst kn;exact Aw
     ·exact h5 k (by lia) k2
    ·right;refine⟨λk k1 k2=>?_,h6⟩;by_cases kn:k=n
     ·subst kn;exact Aw
     ·exact h5 k (by lia) k2
section
variable{prog:Program}{w:World}{A:Around}{E:Value->Shared->Prop}{s:Shared}
abbrev DF(prog:Program)(w:World):=intKind prog w
abbrev BV(prog:Program)(w:World)(k:List Int):Int:=tupleKeyHash (DF prog w) k
structure FL(prog:Program)(w:World)(h:Heap)(es:Array (Int×Value))(t:SetTable)(kk:List (List Int)):Prop where
 J3:t.dummies=#[]
 Ly:Good t.mask
 Ja:t.place.toList.Pairwise (· < ·)
 le:∀j∈t.place.toList,j<=t.mask
 sz:t.place.size=es.size
 O9:es.size*5<t.mask*3
 len:kk.length=es.size
 ent:∀(i:Nat)(hh:Int)(v:Value),es[i]? = some (hh,v)->∃k b,kk[i]? = some k/\v=.ref b/\IsTupleKey (DF prog w) h k b/\hh=BV prog w k
 nd:kk.Nodup
 reach:∀(i j:Nat)(k:List Int),t.place[i]? = some j->kk[i]? = some k->∃n,(road t.mask (BV prog w k) n).j=j/\∀m<n,(road t.mask (BV prog w k) m).j∈t.place.toList
theorem FL.fits{h:Heap}{es:Array (Int×Value)}{t:SetTable}{kk:List (List Int)}(T:FL prog w h es t kk):t.fits es.size=true:=by
 unfold SetTable.fits SetTable.fill;rw[T.J3,T.sz];have:=T.O9;simp;lia
theorem FL.ju{h:Heap}{es:Array (Int×Value)}{t:SetTable}{kk:List (List Int)}(T:FL prog w h es t kk):t.gaveWay=false:=by
 unfold SetTable.gaveWay;rcases T.Ly with e|e<;>rw[e]<;>rfl
theorem oF(n:Nat){v:Value}(h:carriedByValue v=true):ofAClassStatement n v=pure false:=by
 cases v with
 |ref a=>simp[carriedByValue]at h
 |_=>first|rfl|(cases n<;>rfl)
theorem dW{ks:List Int}{b:Addr}{Q:Bool->Shared->Prop}(hk:IsTupleKey (DF prog w) s.heap ks b)(h:Q false s):wpAny (model prog w) A (ofAClassStatement 8 (.ref b)) Q E s:=by
 have hT:=hk.typeIs;obtain⟨o,items,n,ho,hc,hd,hi⟩:=hk;unfold ofAClassStatement;refine wpAny_bind (wpAny_typeOf hT ?_);dsimp only;rw[if_pos (by decide)];refine wpAny_bind (wpAny_pure ?_);simp only[Bool.not_true,Bool.false_eq_true,if_false];refine wpAny_bind (wpAny_seqItems ho hd ?_);refine wpAny_bind ?_;show wpAny _ _ (forIn items _ _) _ _ s;rw[<-Array.forIn_toList];refine wpAny_forIn_list _ (λBh r s'=>r.1=none/\s'=s/\∀v∈Bh,carriedByValue v=true) _ ?_ ?_ _ _ ⟨rfl,rfl,hi.byValue⟩
 ·rintro v Bh r s' ⟨hr,rfl,CB⟩;rw[oF _ (CB v List.mem_cons_self)];refine wpAny_bind (wpAny_pure ?_);simp only[Bool.false_eq_true,if_false];exact wpAny_pure ⟨rfl,rfl,λu Tz=>CB u (List.mem_cons_of_mem _ Tz)⟩
 ·rintro⟨r1,r2⟩ s' ⟨hr,rfl,_⟩;simp only at hr;subst hr;exact wpAny_pure h
theorem wq{k:List Int}{b:Addr}{l:List Value}{Q:Bool->Shared->Prop}(hx:IsTupleKey (DF prog w) s.heap k b)(hl:∀v∈l,∃k' b',v=.ref b'/\IsTupleKey (DF prog w) s.heap k' b')(h:Q false s):wpAny (model prog w) A (searchCouldBeSeen (.ref b) l) Q E s:=by
 unfold searchCouldBeSeen;refine wpAny_bind ?_;refine wpAny_forIn_list _ (λBh r s'=>r.1=none/\s'=s/\∀v∈Bh,∃k' b',v=.ref b'/\IsTupleKey (DF prog w) s.heap k' b') _ ?_ ?_ _ _ ⟨rfl,rfl,hl⟩
 ·rintro v Bh r s' ⟨hr,rfl,CB⟩;obtain⟨k',b',rfl,CC⟩:=CB v List.mem_cons_self;have Y5:∀v∈Bh,∃k' b',v=.ref b'/\IsTupleKey (DF prog w) s'.heap k' b':=λu hu=>CB u (List.mem_cons_of_mem _ hu);dsimp only;refine wpAny_ite_split (λ_=>wpAny_pure ⟨rfl,rfl,Y5⟩) (λ_=>?_);refine wpAny_bind (wpAny_eqIsQuiet_tuple hx ?_);simp only[Bool.not_true,Bool.false_eq_true,if_false];refine wpAny_bind (wpAny_eqIsQuiet_tuple CC ?_);simp only[Bool.not_true,Bool.false_eq_true,if_false];refine wpAny_bind (dW hx ?_);simp only[Bool.false_eq_true,if_false];refine wpAny_bind (dW CC ?_);simp only[Bool.false_eq_true,if_false];exact wpAny_pure ⟨rfl,rfl,Y5⟩
 ·rintro⟨r1,r2⟩ s' ⟨hr,rfl,_⟩;simp only at hr;subst hr;exact wpAny_pure h
theorem dX{a:Addr}{o:Obj}{es:Array (Int×Value)}{ep:Nat}{t:SetTable}{kk:List (List Int)}{k:List Int}{b:Addr}{N:Nat}{Q:SetFound->Shared->Prop} (ho:s.heap.get? a=some o) (hd:o.data=.set es ep t) (T:FL prog w s.heap es t kk) (hu:A.units<cLine) (hx:IsTupleKey (DF prog w) s.heap k b) (M9:N<10*turns t.mask) (hN:(road t.mask (BV prog w k) N).j∉t.place.toList) (CB:∀m<N,(road t.mask (BV prog w k) m).j∈t.place.toList) (h1:k∈kk->Q (.there none) s) (h2:k∉kk->Q (.free (road t.mask (BV prog w k) N).j false) s) : ∀(f n:Nat)(VV:Option Probe),VV.getD (t.probeStart (BV prog w k))=road t.mask (BV prog w k) n->n<=N->N-n<f->(∀(i j:Nat),kk[i]? = some k->t.place[i]? = some j->∀m<n,(road t.mask (BV prog w k) m).j≠j)->
  wpAny (model prog w) A (setSearchFrom a (.ref b) (BV prog w k) true f VV) Q E s
 |0,n,_,_,_,hf,_=>by lia
 |f+1,n,VV,F6,hn,hf,Yv=>by
  unfold setSearchFrom;refine wpAny_bind (wpAny_setState_of ho hd T.fits ?_);dsimp only;rw[T.ju];simp only[Bool.false_eq_true,if_false];rw[F6];have lX:=aw T.Ja T.J3 (λi=>(es[i]?.map (·.1)).getD 0) (BV prog w k) N hN (10*turns t.mask) n hn (by lia) (λm _ hm=>CB m hm);rcases lX with⟨m,i,m1,m2,m3,m4,m5,m6⟩|⟨m5,m6⟩
  ·generalize Tr:SetTable.probe t _ _ _=pr;have NR:pr=some (.candidate (road t.mask (BV prog w k) m).j i (road t.mask (BV prog w k) (m+1))):=Tr.symm.trans m6;subst NR;dsimp only;have hi:i<es.size:=by rw[<-T.sz];exact(Array.getElem?_eq_some_iff.mp m3).1
   obtain⟨⟨hh,v⟩,ev⟩:∃x,es[i]? = some x:=⟨es[i],Array.getElem?_eq_getElem hi⟩;obtain⟨k',b',ek,rfl,CC,rfl⟩:=T.ent i hh v ev;have ke:∀u∈(es.filter (λx=>x.1==BV prog w k)).toList.map (λx=>x.2),∃k' b',u=Value.ref b'/\IsTupleKey (DF prog w) s.heap k' b':=λu hu=>by
    obtain⟨⟨h',u'⟩,hm,rfl⟩:=List.mem_map.mp hu;have C5:(h',u')∈es:=by
     have:=List.mem_filter.mp (by simpa using hm:(h',u')∈es.toList.filter (λx=>x.1==BV prog w k));simpa using this.1
    obtain⟨i',jC⟩:=Array.getElem?_of_mem C5;obtain⟨k2,b2,_,e2,KO,_⟩:=T.ent i' h' u' jC;exact⟨k2,b2,e2,KO⟩
   refine wpAny_ite_split (λ_=>wpAny_bind (wq hx ke ?_)) (λ_=>?_)
   all_goals (try simp only[Bool.false_eq_true,if_false])
   all_goals
    rw[ev];dsimp only;refine wpAny_bind (wpAny_holding (wpAny_eqBool_tuple hu CC hx ?_));refine wpAny_bind (wpAny_setState_of ho hd T.fits ?_);dsimp only;by_cases Li:k'=k
    ·subst Li;simp only[decide_true,Bool.and_self,if_true];exact wpAny_pure (h1 (List.mem_of_getElem? ek))
    ·rw[decide_eq_false Li];simp only[Bool.and_false,Bool.false_eq_true,if_false];have lb:t.sameMemory t.moves t.mask=some true:=by unfold SetTable.sameMemory;simp
     rw[lb];dsimp only;rw[if_pos rfl,cI T.Ja m3];dsimp only;rw[ev];dsimp only;refine wpAny_bind (wpAny_isSame_ref_self ?_);refine wpAny_bind (wpAny_pure ?_);rw[if_pos rfl];dsimp only;refine dX ho hd T hu hx M9 hN CB h1 h2 f (m+1) _ rfl (by lia) (by lia) λi2 j2 e2 p2 m' C5=>?_;by_cases lJ:m'<n
     ·exact Yv i2 j2 e2 p2 m' lJ
     ·by_cases JG:m'=m
      ·subst JG;intro z;have:i2=i:=by rw[<-Mg _ _ T.Ja i2 p2,<-z,Mg _ _ T.Ja i m3]
       subst this;rw[ek]at e2;exact Li (Option.some.inj e2)
      ·intro z;have Aw:=m5 m' (by lia) (by lia) i2 (by rw[z];exact p2);have Lh:i2<es.size:=by rw[<-T.sz];exact(Array.getElem?_eq_some_iff.mp p2).1
       obtain⟨⟨TZ,v2⟩,Iq⟩:∃x,es[i2]? = some x:=⟨es[i2],Array.getElem?_eq_getElem Lh⟩;obtain⟨k3,b3,Ms,_,_,e3⟩:=T.ent i2 TZ v2 Iq;rw[e2]at Ms;cases Ms;apply Aw;rw[Iq];exact e3
  ·generalize Tr:SetTable.probe t _ _ _=pr;have NR:pr=some (.empty (road t.mask (BV prog w k) N).j none):=Tr.symm.trans m6;subst NR;dsimp only;refine wpAny_pure (h2 λHX=>?_);obtain⟨i,ei⟩:=List.getElem?_of_mem HX;have hi:i<t.place.size:=by
    rw[T.sz,<-T.len];exact(List.getElem?_eq_some_iff.mp ei).1
   have hp:t.place[i]? = some t.place[i]:=Array.getElem?_eq_getElem hi;obtain⟨n1,e1,hb⟩:=T.reach i _ k hp ei;have Yt:n1<N:=by
    by_cases z:n1<N
    ·exact z
    ·exfalso;by_cases z2:n1=N
     ·subst z2;apply hN;rw[e1];exact List.mem_of_getElem? (i:=i) (by rw[Array.getElem?_toList];exact hp)
     ·exact hN (hb N (by lia))
   by_cases Ti:n1<n
   ·exact Yv i _ ei hp n1 Ti e1
   ·have Aw:=m5 n1 (by lia) Yt i (by rw[e1];exact hp);have Lh:i<es.size:=by rw[<-T.sz];exact hi
    obtain⟨⟨TZ,v2⟩,Iq⟩:∃x,es[i]? = some x:=⟨es[i],Array.getElem?_eq_getElem Lh⟩;obtain⟨k3,b3,Ms,_,_,e3⟩:=T.ent i TZ v2 Iq;rw[ei]at Ms;cases Ms;apply Aw;rw[Iq];exact e3
end
end ST
set_option linter.all false
namespace ST
open PySem PySem.SetTable
def rI(mask:Nat)(h:Int):Nat->Nat
 |0=>0
 |n+1=>rI mask h n+Cj mask (Bm mask n (L0 mask h)).1+1
theorem Qd(mask:Nat)(h:Int):∀n,road mask h (rI mask h n)=⟨(Bm mask n (L0 mask h)).1,Cj mask (Bm mask n (L0 mask h)).1,(Bm mask n (L0 mask h)).1,(Bm mask n (L0 mask h)).2,none⟩
 |0=>rfl
 |n+1=>by
  have h1:=Qe mask h (rI mask h n) _ _ (Qd mask h n) _ (Nat.le_refl _);show GU mask (road mask h (rI mask h n+Cj mask (Bm mask n (L0 mask h)).1))=_;rw[h1];unfold GU;rw[if_neg (by show ¬ (Cj mask _-Cj mask _>0);lia)]
  rfl
def Ft(Am:Array (Option Nat))(j:Nat):Prop:=(Am.getD j (some 0)).isSome=true
theorem bu(mask i:Nat):runEnd mask i+1-i=Cj mask i+1:=by unfold Cj runEnd;split<;>lia
theorem YE(p:Nat->Bool):∀(n:Nat),match (List.range n).find? p with|some k=>k<n/\p k=true/\∀m<k,p m=false|none=>∀m<n,p m=false:=by
 intro n;cases h:(List.range n).find? p with
 |none=>
  intro m hm;have:=List.find?_eq_none.mp h m (List.mem_range.mpr hm);simpa using this
 |some k=>
  obtain⟨h1,as,bs,e,h2⟩:=List.find?_eq_some_iff_append.mp h;have hk:k∈List.range n:=by rw[e];simp
  refine⟨List.mem_range.mp hk,h1,λm hm=>?_⟩;have CO:as.length=k:=by
   have hg:(List.range n)[as.length]? = some k:=by rw[e];simp
   obtain⟨hl,hv⟩:=List.getElem?_eq_some_iff.mp hg;rw[List.getElem_range]at hv;exact hv
  have C5:m∈as:=by
   have hg:(List.range n)[m]? = some m:=by
    rw[List.getElem?_range (by have:=List.mem_range.mp hk;lia)]
   rw[e,List.getElem?_append_left (by lia)]at hg;exact List.mem_of_getElem? hg
  simpa using h2 m C5
theorem ji{mask:Nat}(Am:Array (Option Nat))(h:Int)(ns:Nat)(JC:¬ Ft Am (Bm mask ns (L0 mask h)).1):∀(d n f:Nat),n+d=ns->d<f->(∀m<rI mask h n,Ft Am (road mask h m).j)->∃N,(∀m<N,Ft Am (road mask h m).j)/\¬ Ft Am (road mask h N).j/\layClean.free mask Am f (Bm mask n (L0 mask h)).1 (Bm mask n (L0 mask h)).2=some (road mask h N).j:=by
 intro d
 induction d with
 |zero=>
  intro n f hn hf CB;obtain⟨f,rfl⟩:∃g,f=g+1:=⟨f-1,by lia⟩;have Th:n=ns:=by lia
  subst Th;refine⟨rI mask h n,CB,by rw[Qd];exact JC,?_⟩;unfold layClean.free;rw[bu];have:=YE (λk=>(Am.getD ((Bm mask n (L0 mask h)).1+k) (some 0)).isNone) (Cj mask (Bm mask n (L0 mask h)).1+1);have h0:(Am.getD ((Bm mask n (L0 mask h)).1+0) (some 0)).isNone=true:=by
   unfold Ft at JC;simpa using JC
  cases NG:(List.range (Cj mask (Bm mask n (L0 mask h)).1+1)).find? (λk=>(Am.getD ((Bm mask n (L0 mask h)).1+k) (some 0)).isNone)with
  |none=>
   rw[NG]at this;have z:=this 0 (by lia)
   try dsimp only at z
   rw[h0]at z;cases z
  |some k=>
   rw[NG]at this;obtain⟨k1,k2,k3⟩:=this;by_cases hk:k=0
   ·subst hk;dsimp only;rw[Qd];simp
   ·have z:=k3 0 (by lia)
    try dsimp only at z
    rw[h0]at z;cases z
 |succ d ih=>
  intro n f hn hf CB;obtain⟨f,rfl⟩:∃g,f=g+1:=⟨f-1,by lia⟩;unfold layClean.free;rw[bu];have:=YE (λk=>(Am.getD ((Bm mask n (L0 mask h)).1+k) (some 0)).isNone) (Cj mask (Bm mask n (L0 mask h)).1+1);have Pl:∀k,k<=Cj mask (Bm mask n (L0 mask h)).1->(road mask h (rI mask h n+k)).j=(Bm mask n (L0 mask h)).1+k:=λk hk=>by
   rw[Qe mask h (rI mask h n) _ _ (Qd mask h n) k hk]
  cases NG:(List.range (Cj mask (Bm mask n (L0 mask h)).1+1)).find? (λk=>(Am.getD ((Bm mask n (L0 mask h)).1+k) (some 0)).isNone)with
  |some k=>
   rw[NG]at this;obtain⟨k1,k2,k3⟩:=this;dsimp only;refine⟨rI mask h n+k,λm hm=>?_,?_,by rw[Pl k (by lia)]⟩
   ·by_cases Tg:m<rI mask h n
    ·exact CB m Tg
    ·have z:=k3 (m-rI mask h n) (by lia);have e:=Pl (m-rI mask h n) (by lia);rw[show rI mask h n+(m-rI mask h n)=m by lia]at e;rw[e];unfold Ft;cases hq:Am.getD ((Bm mask n (L0 mask h)).1+(m-rI mask h n)) (some 0)with
     |none=>(try dsimp only at z);rw[hq]at z;cases z
     |some _=>rfl
   ·rw[Pl k (by lia)];unfold Ft;intro z;cases hq:Am.getD ((Bm mask n (L0 mask h)).1+k) (some 0)with
    |none=>rw[hq]at z;cases z
    |some _=>(try dsimp only at k2);rw[hq]at k2;cases k2
  |none=>
   rw[NG]at this;dsimp only;have kP:∀m<rI mask h (n+1),Ft Am (road mask h m).j:=λm hm=>by
    by_cases Tg:m<rI mask h n
    ·exact CB m Tg
    ·have C5:m<rI mask h n+Cj mask (Bm mask n (L0 mask h)).1+1:=hm;have z:=this (m-rI mask h n) (by lia);have e:=Pl (m-rI mask h n) (by lia);rw[show rI mask h n+(m-rI mask h n)=m by lia]at e;rw[e];unfold Ft;cases hq:Am.getD ((Bm mask n (L0 mask h)).1+(m-rI mask h n)) (some 0)with
     |none=>(try dsimp only at z);rw[hq]at z;cases z
     |some _=>rfl
   exact ih (n+1) f (by lia) (by lia) kP
structure Laid(mask:Nat)(hs:List Int)(Am:Array (Option Nat))(js:List Nat):Prop where
 sz:Am.size=mask+1
 len:js.length=hs.length
 nd:js.Nodup
 le:∀j∈js,j<=mask
 own:∀(k j:Nat),js[k]? = some j->Am[j]? = some (some k)
 Bq:∀j,j<=mask->j∉js->Am[j]? = some none
 reach:∀(k j:Nat)(h:Int),js[k]? = some j->hs[k]? = some h->∃n,(road mask h n).j=j/\∀m<n,(road mask h m).j∈js
theorem Laid.UP{mask:Nat}{hs:List Int}{Am:Array (Option Nat)}{js:List Nat}(L:Laid mask hs Am js){j:Nat}(hj:j<=mask):Ft Am j↔j∈js:=by
 unfold Ft;constructor
 ·intro z;refine Classical.byContradiction λhn=>?_;have e:=L.Bq j hj hn;have B4:j<Am.size:=by rw[L.sz];lia
  rw[Array.getElem?_eq_getElem B4]at e;simp only[Array.getD,B4,dif_pos]at z;have e':Am[j]=none:=Option.some.inj e;rw[show Am.getInternal j B4=Am[j]from rfl,e']at z;cases z
 ·intro hm;obtain⟨k,hk⟩:=List.getElem?_of_mem hm;have e:=L.own k j hk;have B4:j<Am.size:=by rw[L.sz];lia
  rw[Array.getElem?_eq_getElem B4]at e;simp only[Array.getD,B4,dif_pos];have e':Am[j]=some k:=Option.some.inj e;rw[show Am.getInternal j B4=Am[j]from rfl,e']
  rfl
theorem Qc{mask:Nat}(h:Int):∀n,(road mask h n).j<=mask/\(road mask h n).j+(road mask h n).more<=mask/\(road mask h n).i<=mask
 |0=>by
  have h1:bits h%(mask+1)<mask+1:=Nat.mod_lt _ (Nat.succ_pos _);show bits h%(mask+1)<=mask/\bits h%(mask+1)+Cj mask (bits h%(mask+1))<=mask/\bits h%(mask+1)<=mask;unfold Cj runEnd;split<;>lia
 |n+1=>by
  obtain⟨h1,h2,h3⟩:=Qc (mask:=mask) h n;unfold road GU;split
  ·dsimp only;lia
  ·dsimp only;have h4:(leap mask (road mask h n).i (road mask h n).perturb).1<mask+1:=Nat.mod_lt _ (Nat.succ_pos _);unfold Cj runEnd;split<;>lia
theorem ZX{mask:Nat}(hm:Good mask):∀(Bh hs:List Int)(Am:Array (Option Nat))(js:List Nat),Laid mask hs Am js->hs.length+Bh.length<=mask->∃QO T8,Laid mask (hs++Bh) QO T8/\(Bh.foldl (init:=some (Am,hs.length)) λacc h=>(do
  let (Am,k)<-acc
  let j<-layClean.free mask Am (turns mask) (bits h%(mask+1)) (bits h)
  pure (Am.setIfInBounds j (some k),k+1)))=some (QO,(hs++Bh).length)
 |[],hs,Am,js,L,_=>⟨Am,js,by simpa using L,by simp⟩
 |h::Bh,hs,Am,js,L,CO=>by
  have hl:js.length<=mask:=by rw[L.len];simp at CO;lia
  obtain⟨j,hj,F3⟩:=YN mask js L.nd hl L.le;obtain⟨ns,Tj,jG⟩:=Zc hm h hj;have JC:¬ Ft Am (Bm mask ns (L0 mask h)).1:=by rw[jG,L.UP hj];exact F3
  obtain⟨N,j8,j9,kA⟩:=ji Am h ns JC ns 0 (turns mask) (by lia) (by unfold turns at *;lia) (λm hm=>by simp[rI]at hm);have hle:=(Qc (mask:=mask) h N).1;have Ya:(road mask h N).j∉js:=λz=>j9 ((L.UP hle).mpr z);have Eo:(road mask h N).j<Am.size:=by rw[L.sz];lia
  have L':Laid mask (hs ++ [h]) (Am.setIfInBounds (road mask h N).j (some hs.length)) (js ++ [(road mask h N).j]):=by
   refine⟨by simpa using L.sz,by simp[L.len],?_,λx hx=>?_,λk x hk=>?_,λx hx Pq=>?_,λk x h' hk hh=>?_⟩
   ·rw[List.nodup_append];exact⟨L.nd,by simp,λa ha b hb=>by rw[List.mem_singleton]at hb;subst hb;intro z;exact Ya (z ▸ ha)⟩
   ·rcases List.mem_append.mp hx with hx|hx
    ·exact L.le x hx
    ·rw[List.mem_singleton]at hx;subst hx;exact hle
   ·by_cases Gg:k<js.length
    ·rw[List.getElem?_append_left Gg]at hk;have Pq:(road mask h N).j≠x:=λz=>Ya (z ▸ List.mem_of_getElem? hk);rw[Array.getElem?_setIfInBounds_ne Pq];exact L.own k x hk
    ·rw[List.getElem?_append_right (by lia)]at hk;have NK:k=js.length:=by
      have:=(List.getElem?_eq_some_iff.mp hk).1;simp at this;lia
     subst NK;simp at hk;subst hk;rw[Array.getElem?_setIfInBounds_self_of_lt Eo,L.len]
   ·have h1:x∉js:=λz=>Pq (List.mem_append_left _ z);have h2:(road mask h N).j≠x:=λz=>Pq (List.mem_append_right _ (by simp[z]));rw[Array.getElem?_setIfInBounds_ne h2];exact L.Bq x hx h1
   ·by_cases Gg:k<js.length
    ·rw[List.getElem?_append_left Gg]at hk;rw[List.getElem?_append_left (by rw[<-L.len];exact Gg)]at hh;obtain⟨n,e,hb⟩:=L.reach k x h' hk hh;exact⟨n,e,λm hm=>List.mem_append_left _ (hb m hm)⟩
    ·rw[List.getElem?_append_right (by lia)]at hk;have NK:k=js.length:=by
      have:=(List.getElem?_eq_some_iff.mp hk).1;simp at this;lia
     subst NK;simp at hk;subst hk;rw[List.getElem?_append_right (by rw[L.len];exact Nat.le_refl _),L.len]at hh;simp at hh;subst hh;exact⟨N,rfl,λm hm=>List.mem_append_left _ ((L.UP (Qc _ m).1).mp (j8 m hm))⟩
  obtain⟨QO,T8,L2,e2⟩:=ZX hm Bh (hs ++ [h]) _ _ L' (by simp at CO ⊢;lia);refine⟨QO,T8,by simpa using L2,?_⟩;rw[List.foldl_cons];have lg:(do
   let (Am,k)<-(some (Am,hs.length):Option (Array (Option Nat)×Nat))
   let j<-layClean.free mask Am (turns mask) (bits h%(mask+1)) (bits h)
   pure (Am.setIfInBounds j (some k),k+1))=some (Am.setIfInBounds (road mask h N).j (some hs.length),(hs ++ [h]).length):=by
   show(layClean.free mask Am (turns mask) (bits h%(mask+1)) (bits h)).bind _=_;have:layClean.free mask Am (turns mask) (bits h%(mask+1)) (bits h)=some (road mask h N).j:=kA;rw[this];simp
  rw[lg,e2];simp
theorem nD{mask:Nat}(hm:Good mask)(hs:Array Int)(hl:hs.size<=mask):∃Am js,Laid mask hs.toList Am js/\layClean mask hs=some Am:=by
 have L0:Laid mask [] (Array.replicate (mask+1) none) []:=by
  refine⟨by simp,rfl,List.nodup_nil,by simp,by simp,λj hj _=>?_,by simp⟩;rw[Array.getElem?_replicate,if_pos (by lia)]
 obtain⟨Am,js,L,e⟩:=ZX hm hs.toList [] _ _ L0 (by simpa using hl);refine⟨Am,js,by simpa using L,?_⟩;unfold layClean;rw[<-Array.foldl_toList];have e':=e;simp only[List.nil_append,List.length_nil]at e';rw[e']
 rfl
end ST
set_option linter.all false
namespace ST
open PySem PySem.SetTable
theorem PC{α β:Type}(f:α->Option β):∀(l:List α)(_:∀x∈l,∃y,f x=some y)(i:Nat),(l.filterMap f)[i]? = (l[i]?).bind f
 |[],_,i=>by simp
 |x::r,h,i=>by
  obtain⟨y,hy⟩:=h x List.mem_cons_self;rw[List.filterMap_cons_some hy];cases i with
  |zero=>simp[hy]
  |succ i=>
   simp only[List.getElem?_cons_succ];exact PC f r (λz hz=>h z (List.mem_cons_of_mem _ hz)) i
def live(mask:Nat)(Am:Array (Option Nat)):List (Nat×Nat):=(List.range (mask+1)).filterMap λj=>(Am.getD j none).map (j,·)
theorem Ls{mask:Nat}{hs:List Int}{Am:Array (Option Nat)}{js:List Nat}(L:Laid mask hs Am js)(j k:Nat):(j,k)∈live mask Am↔js[k]? = some j:=by
 unfold live;rw[List.mem_filterMap];constructor
 ·rintro⟨j',Cz,e⟩;have kz:j'<=mask:=by have:=List.mem_range.mp Cz;lia
  have B4:j'<Am.size:=by rw[L.sz];lia
  cases ho:Am.getD j' none with
  |none=>rw[ho]at e;cases e
  |some k'=>
   rw[ho]at e;simp only[Option.map_some,Option.some.injEq,Prod.mk.injEq]at e;obtain⟨rfl,rfl⟩:=e;simp only[Array.getD,B4,dif_pos]at ho;have CY:Am[j']? = some (some k'):=by rw[Array.getElem?_eq_getElem B4];exact congrArg some ho
   by_cases hm:j'∈js
   ·obtain⟨k2,KO⟩:=List.getElem?_of_mem hm;have:=L.own k2 j' KO;rw[CY]at this;simp only[Option.some.injEq]at this;subst this;exact KO
   ·have:=L.Bq j' kz hm;rw[CY]at this;cases this
 ·intro h;have hj:=L.le j (List.mem_of_getElem? h);have B4:j<Am.size:=by rw[L.sz];lia
  refine⟨j,List.mem_range.mpr (by lia),?_⟩;have:=L.own k j h;rw[Array.getElem?_eq_getElem B4]at this;have e:Am.getD j none=some k:=by
   simp only[Array.getD,B4,dif_pos];exact Option.some.inj this
  rw[e];rfl
theorem Zo(mask:Nat)(Am:Array (Option Nat)):(live mask Am).Pairwise (λa b=>a.1<b.1):=by
 unfold live;rw[List.pairwise_filterMap];refine List.pairwise_lt_range.imp ?_;intro a b EZ x hx y hy;cases ha:Am.getD a none with
 |none=>rw[ha]at hx;cases hx
 |some k=>
  cases hb:Am.getD b none with
  |none=>rw[hb]at hy;cases hy
  |some l=>
   rw[ha]at hx;rw[hb]at hy;cases hx;cases hy;exact EZ
theorem nO{mask:Nat}{hs:List Int}{Am:Array (Option Nat)}{js:List Nat}(L:Laid mask hs Am js):((live mask Am).map (·.2)).Perm (List.range hs.length):=by
 have Gi:((live mask Am).map (·.2)).Nodup:=by
  show List.Pairwise _ _;rw[List.pairwise_map];have KR:=Zo mask Am;have HX:∀x∈live mask Am,js[x.2]? = some x.1:=λx hx=>(Ls L x.1 x.2).mp hx;refine(List.Pairwise.and_mem.mp KR).imp ?_;rintro a b ⟨ha,hb,EZ⟩ z;have h1:=HX a ha;have h2:=HX b hb;rw[z,h2]at h1;have:=Option.some.inj h1;lia
 refine(List.perm_ext_iff_of_nodup Gi List.nodup_range).mpr λk=>?_;rw[List.mem_map,List.mem_range];constructor
 ·rintro⟨⟨j,k'⟩,hm,rfl⟩;have:=(Ls L j k').mp hm;rw[<-L.len];exact(List.getElem?_eq_some_iff.mp this).1
 ·intro hk;rw[<-L.len]at hk;exact⟨(js[k],k),(Ls L _ _).mpr (List.getElem?_eq_getElem hk),rfl⟩
section
variable{prog:Program}{w:World}{A:Around}{E:Value->Shared->Prop}{s:Shared}
structure Rb(prog:Program)(w:World)(h:Heap)(es:Array (Int×Value))(kk:List (List Int)):Prop where
 len:kk.length=es.size
 ent:∀(i:Nat)(hh:Int)(v:Value),es[i]? = some (hh,v)->∃k b,kk[i]? = some k/\v=.ref b/\IsTupleKey (DF prog w) h k b/\hh=BV prog w k
 nd:kk.Nodup
theorem rZ{h:Heap}{es:Array (Int×Value)}{t:SetTable}{kk:List (List Int)}(T:Rb prog w h es kk)(hw:sizeAbove n=32)(Eo:es.size*5<93) : ∃t' order IJ,t.relaid (es.map (·.1)) n=some (t',order)/\(order.filterMap (es[·]?)).size=es.size/\FL prog w h (order.filterMap (es[·]?)) t' IJ/\IJ.Perm kk:=by
 have hm:Good 31:=.inr rfl;obtain⟨Am,js,L,e⟩:=nD hm (es.map (·.1)) (by simp;lia);have En:=nO L;have kq:((es.map (·.1)).toList).length=es.size:=by simp
 rw[kq]at En;have B4:∀k∈(live 31 Am).map (·.2),k<es.size:=λk hk=>List.mem_range.mp (En.mem_iff.mp hk);have kf:∀k∈(live 31 Am).map (·.2),∃y,es[k]? = some y:=λk hk=>⟨es[k]'(B4 k hk),Array.getElem?_eq_getElem _⟩;have Li:∀k∈(live 31 Am).map (·.2),∃y,kk[k]? = some y:=λk hk=>⟨kk[k]'(by rw[T.len];exact B4 k hk),List.getElem?_eq_getElem _⟩;have Te:(live 31 Am).length=es.size:=by
  have:=En.length_eq;simpa using this
 have el:(((live 31 Am).map (·.2)).toArray.filterMap (es[·]?)).toList=((live 31 Am).map (·.2)).filterMap (λk=>es[k]?):=by
  rw[Array.toList_filterMap]
 have HW:(((live 31 Am).map (·.2)).toArray.filterMap (es[·]?)).size=es.size:=by
  rw[<-Array.length_toList,el];have h1:=(En.filterMap (λk=>es[k]?)).length_eq;rw[h1,filterMap_getElem?_range];simp
 have Tc:(((live 31 Am).map (·.2)).filterMap (λk=>kk[k]?)).Perm kk:=by
  have h1:=En.filterMap (λk=>kk[k]?);rw[<-T.len,List.filterMap_getElem?_range_length]at h1;exact h1
 refine⟨{ mask:=31,place:=((live 31 Am).map (·.1)).toArray,dummies:=#[],finger:=t.finger,led:=t.led,moves:=t.movedTo (sizeAbove n-1),plain:=t.plain },((live 31 Am).map (·.2)).toArray,((live 31 Am).map (·.2)).filterMap (λk=>kk[k]?),?_,HW,?_,Tc⟩
 ·unfold relaid laid;rw[hw,e]
  rfl
 ·refine⟨rfl,hm,?_,λj hj=>?_,by rw[HW];simpa using Te,by rw[HW];exact Eo,?_,λi hh v hv=>?_,Tc.nodup_iff.mpr T.nd,λi j k hp hk=>?_⟩
  ·show(((live 31 Am).map (·.1)).toArray.toList).Pairwise _;rw[List.toList_toArray,List.pairwise_map];exact Zo 31 Am
  ·have Cz:j∈(live 31 Am).map (·.1):=by simpa using hj
   obtain⟨⟨j',k⟩,C5,rfl⟩:=List.mem_map.mp Cz;exact L.le _ (List.mem_of_getElem? ((Ls L j' k).mp C5))
  ·rw[HW,<-T.len];exact Tc.length_eq
  ·rw[<-Array.getElem?_toList,el,PC _ _ kf]at hv;rw[PC _ _ Li];cases ho:((live 31 Am).map (·.2))[i]? with
   |none=>rw[ho]at hv;cases hv
   |some k=>
    rw[ho]at hv;exact T.ent k hh v hv
  ·rw[PC _ _ Li]at hk;have F4:((live 31 Am).map (·.1))[i]? = some j:=by simpa using hp
   rw[List.getElem?_map]at F4 hk;cases hl:(live 31 Am)[i]? with
   |none=>rw[hl]at F4;cases F4
   |some x=>
    obtain⟨j',k'⟩:=x;rw[hl]at F4 hk;simp only[Option.map_some,Option.some.injEq]at F4;subst F4;have k8:=(Ls L j' k').mp (List.mem_of_getElem? hl);have CC:kk[k']? = some k:=by simpa using hk
    have Gg:k'<es.size:=by rw[<-T.len];exact(List.getElem?_eq_some_iff.mp CC).1
    obtain⟨⟨hh,v⟩,ev⟩:∃x,es[k']? = some x:=⟨es[k'],Array.getElem?_eq_getElem Gg⟩;obtain⟨k2,b2,e2,_,_,e3⟩:=T.ent k' hh v ev;rw[CC]at e2;cases e2;have ko:((es.map (·.1)).toList)[k']? = some (BV prog w k):=by
     rw[Array.getElem?_toList,Array.getElem?_map,ev,e3]
     rfl
    obtain⟨n1,r1,r2⟩:=L.reach k' j' _ k8 ko;refine⟨n1,r1,λm C5=>?_⟩;have:=r2 m C5;obtain⟨q,hq⟩:=List.getElem?_of_mem this;have:=(Ls L _ q).mpr hq;have:(road 31 (BV prog w k) m).j∈(live 31 Am).map (·.1):=List.mem_map.mpr ⟨_,this,rfl⟩;simpa using this
end
end ST
set_option linter.all false
namespace ST
open PySem PySem.SetTable
section
variable{prog:Program}{w:World}{A:Around}{E:Value->Shared->Prop}{s:Shared}
theorem ZV{h h':Heap}{ks:List Int}{a d:Addr}{o:Obj}{es ep}{t:SetTable}(x:IsTupleKey (DF prog w) h ks a)(ho:h.get? d=some o)(hd:o.data=.set es ep t)(hs:Heap.SameBut d h h'):IsTupleKey (DF prog w) h' ks a:=by
 obtain⟨o',items,n,CY,hc,IC,hi⟩:=x;have Aw:a≠d:=by
  rintro rfl;obtain rfl:o'=o:=Option.some.inj (CY.symm.trans ho);rw[hd]at IC;exact nomatch IC
 exact⟨o',items,n,(hs.2 a Aw).trans CY,hc,IC,hi⟩
theorem FL.move{h h':Heap}{es:Array (Int×Value)}{t:SetTable}{kk:List (List Int)}(T:FL prog w h es t kk)(m:∀k b,IsTupleKey (DF prog w) h k b->IsTupleKey (DF prog w) h' k b):FL prog w h' es t kk:=
 ⟨T.J3,T.Ly,T.Ja,T.le,T.sz,T.O9,T.len,λi hh v e=>let ⟨k,b,e1,e2,e3,e4⟩:=T.ent i hh v e;⟨k,b,e1,e2,m k b e3,e4⟩,T.nd,T.reach⟩
theorem wt{k:List Int}{b:Addr}{Q:Bool->Shared->Prop}(hx:IsTupleKey (DF prog w) s.heap k b)(h:Q true s):wpAny (model prog w) A (hashByValue 8 (.ref b)) Q E s:=by
 have hT:=hx.typeIs;obtain⟨o,items,n,ho,hc,hd,hi⟩:=hx;unfold hashByValue;refine wpAny_bind (wpAny_specialOf hT F.slot_tuple_hash.lookup ?_);dsimp only;refine wpAny_bind (wpAny_seqItems ho hd ?_);refine wpAny_bind ?_;show wpAny _ _ (forIn items _ _) _ _ s;rw[<-Array.forIn_toList];have CB:∀{x:List Int}{vs:List Value},ItemsAre (DF prog w) x vs->∀v∈vs,∃i t,v=Value.int i t:=by
  intro x vs hx
  induction hx with
  |nil=>intro v hv;simp at hv
  |@cons k v' ks vs h1 _ ih=>
   intro v hv;rcases List.mem_cons.mp hv with rfl|hv
   ·obtain⟨t,e⟩:=Value.isInt_shape h1;exact⟨_,t,e⟩
   ·exact ih v hv
 refine wpAny_forIn_list _ (λBh r s'=>r.1=none/\s'=s/\∀v∈Bh,∃i t,v=Value.int i t) _ ?_ ?_ _ _ ⟨rfl,rfl,CB hi⟩
 ·rintro v Bh r s' ⟨hr,rfl,CB⟩;obtain⟨i,t,rfl⟩:=CB v List.mem_cons_self;show wpAny _ _ (pure true >>= _) _ _ _;refine wpAny_bind (wpAny_pure ?_);simp only[Bool.not_true,Bool.false_eq_true,if_false];exact wpAny_pure ⟨rfl,rfl,λu Tz=>CB u (List.mem_cons_of_mem _ Tz)⟩
 ·rintro⟨r1,r2⟩ s' ⟨hr,rfl,_⟩;simp only at hr;subst hr;exact wpAny_pure h
theorem T5{α:Type}(xs:Array α)(p:Nat)(x:α)(hp:p<=xs.size)(i:Nat):(insertAt xs p x)[i]? = if i<p then xs[i]? else if i=p then some x else xs[i-1]?:=by
 rw[<-Array.getElem?_toList,SetTable.toList_insertAt];by_cases h1:i<p
 ·rw[if_pos h1,List.getElem?_append_left (by rw[List.length_take];simp;lia),List.getElem?_take_of_lt h1,Array.getElem?_toList]
 ·rw[if_neg h1,List.getElem?_append_right (by rw[List.length_take];simp;lia)];have e:(List.take p xs.toList).length=p:=by rw[List.length_take];simp;lia
  rw[e];by_cases h2:i=p
  ·subst h2;simp
  ·rw[if_neg h2];obtain⟨d,hd⟩:∃d,i-p=d+1:=⟨i-p-1,by lia⟩;rw[hd,List.getElem?_cons_succ,List.getElem?_drop,Array.getElem?_toList]
   congr 1
   lia
theorem ZJ{α:Type}(xs:List α)(p:Nat)(x:α)(hp:p<=xs.length)(i:Nat):(xs.take p++x::xs.drop p)[i]? = if i<p then xs[i]? else if i=p then some x else xs[i-1]?:=by
 have:=T5 xs.toArray p x (by simpa using hp) i;rw[<-Array.getElem?_toList,SetTable.toList_insertAt]at this;simpa using this
theorem rJ{h:Heap}{es:Array (Int×Value)}{t:SetTable}{kk:List (List Int)}{k:List Int}{b:Addr}{N:Nat}(T:FL prog w h es t kk)(hx:IsTupleKey (DF prog w) h k b)(hk:k∉kk) (hN:(road t.mask (BV prog w k) N).j∉t.place.toList) (CB:∀m<N,(road t.mask (BV prog w k) m).j∈t.place.toList) (t1:SetTable) (Gj:t1.mask=t.mask/\t1.dummies=t.dummies/\t1.place=(t.put (road t.mask (BV prog w k) N).j).1.place) : ∃IJ,IJ.Perm (k::kk)/\Rb prog w h (insertAt es (t.put (road t.mask (BV prog w k) N).j).2 (BV prog w k,.ref b)) IJ/\(insertAt es (t.put (road t.mask (BV prog w k) N).j).2 (BV prog w k,Value.ref b)).size=es.size+1/\t1.place.size=es.size+1/\
  ((es.size+1)*5<t.mask*3->FL prog w h (insertAt es (t.put (road t.mask (BV prog w k) N).j).2 (BV prog w k,.ref b)) t1 IJ):=by
 obtain⟨m1,m2,m3⟩:=Gj;have hp:(t.put (road t.mask (BV prog w k) N).j).2=below t.place (road t.mask (BV prog w k) N).j:=rfl;have B7:(t.put (road t.mask (BV prog w k) N).j).1.place=insertAt t.place (below t.place (road t.mask (BV prog w k) N).j) (road t.mask (BV prog w k) N).j:=rfl;rw[B7]at m3;rw[hp];have Pa:below t.place (road t.mask (BV prog w k) N).j<=t.place.size:=by
  rw[Rt _ _ T.Ja];have:=Wo t.place.toList (road t.mask (BV prog w k) N).j;simpa using this
 generalize Ym:(road t.mask (BV prog w k) N).j=jj at *
 generalize lW:below t.place jj=p at *
 have Gg:kk.length=t.place.size:=by rw[T.sz];exact T.len
 have Eo:(insertAt es p (BV prog w k,Value.ref b)).size=es.size+1:=by
  rw[<-Array.length_toList,SetTable.toList_insertAt];simp;have:=T.sz;lia
 have NW:t1.place.size=es.size+1:=by
  rw[m3,<-Array.length_toList,SetTable.toList_insertAt];simp;have:=T.sz;lia
 have En:(kk.take p++k::kk.drop p).Perm (k::kk):=by
  have:=List.perm_middle (a:=k) (l₁:=kk.take p) (l₂:=kk.drop p)
  rwa [List.take_append_drop]at this
 have T0:Rb prog w h (insertAt es p (BV prog w k,.ref b)) (kk.take p++k::kk.drop p):=by
  refine⟨?_,λi hh v e=>?_,En.nodup_iff.mpr (List.nodup_cons.mpr ⟨hk,T.nd⟩)⟩
  ·rw[Eo,En.length_eq,List.length_cons,T.len]
  ·rw[T5 es p _ (by rw[<-T.sz];exact Pa)]at e;rw[ZJ kk p k (by rw[Gg];exact Pa)];by_cases h1:i<p
   ·rw[if_pos h1]at e ⊢;exact T.ent i hh v e
   ·rw[if_neg h1]at e ⊢;by_cases h2:i=p
    ·rw[if_pos h2]at e ⊢;cases e;exact⟨k,b,rfl,rfl,hx,rfl⟩
    ·rw[if_neg h2]at e ⊢;exact T.ent (i-1) hh v e
 refine⟨_,En,T0,Eo,NW,λJB=>?_⟩;have HX:∀x∈t.place.toList,x∈t1.place.toList:=λx JI=>by
  rw[m3];exact(SetTable.insertAt_perm t.place p jj).mem_iff.mpr (by simpa using Or.inl (by simpa using JI))
 refine⟨by rw[m2,T.J3],by rw[m1];exact T.Ly,?_,λj hj=>?_,by rw[NW,Eo],by rw[Eo,m1];exact JB,T0.len,T0.ent,T0.nd,λi j k' JH JF=>?_⟩
 ·rw[m3,<-lW];exact mJ t.place jj T.Ja hN
 ·rw[m3]at hj;have:=(SetTable.insertAt_perm t.place p jj).mem_iff.mp hj;rw[m1];rw[Array.toList_push]at this;rcases List.mem_append.mp this with z|z
  ·exact T.le j z
  ·rw[List.mem_singleton]at z;rw[z,<-Ym];exact(Qc _ N).1
 ·rw[m3,T5 t.place p jj Pa]at JH;rw[ZJ kk p k (by rw[Gg];exact Pa)]at JF;rw[m1];by_cases h1:i<p
  ·rw[if_pos h1]at JH JF;obtain⟨n,r1,r2⟩:=T.reach i j k' JH JF;exact⟨n,r1,λm hm=>HX _ (r2 m hm)⟩
  ·rw[if_neg h1]at JH JF;by_cases h2:i=p
   ·rw[if_pos h2]at JH JF;cases JH;cases JF;exact⟨N,Ym,λm hm=>HX _ (CB m hm)⟩
   ·rw[if_neg h2]at JH JF;obtain⟨n,r1,r2⟩:=T.reach (i-1) j k' JH JF;exact⟨n,r1,λm hm=>HX _ (r2 m hm)⟩
def Hm(prog:Program)(w:World)(h:Heap)(a:Addr)(ks:List (List Int)):Prop:=
 ∃o es ep t kk,h.get? a=some o/\o.ExactSet/\o.data=.set es ep t/\FL prog w h es t kk/\kk.Perm ks
theorem YU{h:Heap}{a:Addr}{o:Obj}{es:Array (Int×Value)}{ep:Nat}{t:SetTable}{es':Array (Int×Value)}{t':SetTable}(ho:h.get? a=some o)(hd:o.data=.set es ep t) : (h.update a (Obj.putSet es' t')).get? a=some { o with data:=.set es' (ep+1) t' }:=by
 have:=Heap.get?_update_self (Obj.putSet es' t') ho (by rw[putSet_of es' t' hd];rfl);rw[putSet_of es' t' hd]at this;exact this
theorem wm{a:Addr}{ks:List (List Int)}{k:List Int}{b:Addr}{Q:Bool->Shared->Prop}(hS:Hm prog w s.heap a ks)(hx:IsTupleKey (DF prog w) s.heap k b)(hu:A.units<cLine)(JB:ks.length+1<=18) (h:∀h' r,Heap.SameBut a s.heap h'->Hm prog w h' a (if k∈ks then ks else k::ks)->Q r { s with heap:=h' }):wpAny (model prog w) A (setAddHashed a (.ref b) (BV prog w k)) Q E s:=by
 obtain⟨o,es,ep,t,kk,ho,hex,hd,T,En⟩:=hS;unfold setAddHashed setAddHashedIn;refine wpAny_holding (wpAny_bind (wpAny_setState_of ho hd T.fits ?_));dsimp only;rw[show byScan (.ref b) es=false from rfl];simp only[Bool.false_eq_true,if_false];have Gi:t.place.toList.Nodup:=T.Ja.imp (λh=>Nat.ne_of_lt h);have CO:t.place.toList.length<=t.mask:=by
  have h1:=T.sz;have h2:=T.O9;simp;lia
 obtain⟨N,M9,hN,CB⟩:=jZ T.Ly (BV prog w k) t.place.toList Gi CO T.le;have Gg:kk.length=ks.length:=En.length_eq;unfold setSearch;refine wpAny_bind (dX ho hd T hu hx M9 hN CB ?_ ?_ 100000 0 none rfl (Nat.zero_le _) (by have:=T.Ly;unfold turns at M9;rcases this with e|e<;>rw[e]at M9<;>lia) (λ_ _ _ _ m hm=>by lia))
 ·intro hk;dsimp only;refine wpAny_pure ?_;have:=h s.heap false (Heap.SameBut.refl a s.heap);rw[if_pos (En.mem_iff.mp hk)]at this;exact this ⟨o,es,ep,t,kk,ho,hex,hd,T,En⟩
 ·intro hk;dsimp only;have Yo:k∉ks:=λz=>hk (En.mem_iff.mpr z);refine wpAny_bind (wpAny_setState_of ho hd T.fits ?_);dsimp only;have fin:∀t1:SetTable,(t1.mask=t.mask/\t1.dummies=t.dummies/\t1.place=(t.put (road t.mask (BV prog w k) N).j).1.place)->wpAny (model prog w) A (do
    storeSet a (insertAt es (t.put (road t.mask (BV prog w k) N).j).2 (BV prog w k,.ref b)) t1
    if(
     !false&&t1.tooFull)=true then do
     setRelay a (grown (es.size+1))
     pure true
     else pure true) Q E s:=by
   intro t1 Gj;obtain⟨IJ,F4,T0,Eo,NW,hT⟩:=rJ T hx hk hN CB t1 Gj;have TU:t1.fill=es.size+1:=by
    unfold SetTable.fill;rw[NW,Gj.2.1,T.J3]
    rfl
   have xn:es.size=ks.length:=by rw[<-T.len,Gg]
   refine wpAny_bind (wpAny_storeSet_of ho hd ?_ (by rw[Eo,sizeLine_eq];lia));have hg:=YU (es':=insertAt es (t.put (road t.mask (BV prog w k) N).j).2 (BV prog w k,Value.ref b)) (t':=t1) ho hd;have NV:=Heap.SameBut.update s.heap a (Obj.putSet (insertAt es (t.put (road t.mask (BV prog w k) N).j).2 (BV prog w k,Value.ref b)) t1);generalize xZ:insertAt es (t.put (road t.mask (BV prog w k) N).j).2 (BV prog w k,Value.ref b)=Mt at *
   have mv:∀k2 b2,IsTupleKey (DF prog w) s.heap k2 b2->IsTupleKey (DF prog w) (s.heap.update a (Obj.putSet Mt t1)) k2 b2:=λ_ _ z=>ZV z ho hd NV;have Y2:IJ.Perm (k::ks):=F4.trans (En.cons k);by_cases JD:t1.tooFull=true
   ·rw[if_pos (by rw[JD];rfl)];have hf:(es.size+1)*5>=t.mask*3:=by
     unfold SetTable.tooFull at JD;rw[TU,Gj.1]at JD;simpa using JD
    have NO:t.mask=7/\es.size=4:=by
     have h1:=T.O9;rcases T.Ly with e|e
     ·rw[e]at h1 hf;exact⟨e,by lia⟩
     ·rw[e]at hf;lia
    have Yf:sizeAbove (grown (es.size+1))=32:=by rw[NO.2];rfl
    obtain⟨t',order,nA,la,ZC,T',lS⟩:=rZ (t:=t1) T0 Yf (by rw[Eo,NO.2];decide);have ki:t1.fits Mt.size=true:=by
     unfold SetTable.fits;rw[TU,NW,Eo,Gj.1,NO.1,NO.2]
     rfl
    refine wpAny_bind ?_;unfold setRelay;refine wpAny_bind (wpAny_setState_of hg rfl ki ?_);dsimp only;rw[Yf,if_neg (by rw[sizeLine_eq];decide)];refine wpAny_bind (wpAny_of_eq (a:=(order.filterMap (Mt[·]?),t')) ?_ ?_)
    ·rw[la];show(if(_ != _)=true then _ else _)=_;rw[ZC];simp
    ·dsimp only;refine wpAny_storeSet_of hg rfl ?_ (by rw[ZC,Eo,NO.2,sizeLine_eq];decide);have Y7:=Heap.SameBut.update (s.heap.update a (Obj.putSet Mt t1)) a (Obj.putSet (order.filterMap (Mt[·]?)) t');refine wpAny_pure ?_;have:=h _ true (NV.trans Y7);rw[if_neg Yo]at this;refine this ⟨_,_,_,_,nA,YU hg rfl,hex,rfl,T'.move λ_ _ z=>ZV (mv _ _ z) hg rfl Y7,lS.trans Y2⟩
   ·rw[if_neg (by simpa using JD)];refine wpAny_pure ?_;have:=h _ true NV;rw[if_neg Yo]at this;refine this ⟨_,_,_,_,IJ,hg,hex,rfl,(hT ?_).move mv,Y2⟩;unfold SetTable.tooFull at JD;rw[TU,Gj.1]at JD;simp at JD;lia
  by_cases B7:(t.put (road t.mask (BV prog w k) N).j).1.plain=true
  ·rw[if_pos B7];refine wpAny_bind (wt hx ?_);simp only[if_true];refine fin _ ⟨rfl,?_,rfl⟩;show(if has t.dummies _=true then _ else t.dummies)=t.dummies;rw[T.J3];simp[has]
  ·rw[if_neg B7];refine wpAny_bind (wpAny_pure ?_);simp only[if_true];refine fin _ ⟨rfl,?_,rfl⟩;show(if has t.dummies _=true then _ else t.dummies)=t.dummies;rw[T.J3];simp[has]
end
end ST
set_option linter.all false
set_option maxRecDepth 100000
namespace ST
open PySem PySem.SetTable
section
variable{prog:Program}{w:World}{A:Around}{E:Value->Shared->Prop}{s:Shared}
def EN:List (List Int)->List (List Int)->List (List Int)
 |acc,[]=>acc
 |acc,k::r=>EN (if k∈acc then acc else k::acc) r
theorem dF:∀(l acc:List (List Int)),(EN acc l).length<=acc.length+l.length
 |[],acc=>by unfold EN;simp
 |k::r,acc=>by
  unfold EN;refine Nat.le_trans (dF r _) ?_;split<;>simp<;>lia
theorem Nf{h h':Heap}{k:List Int}{b:Addr}(z:IsTupleKey (DF prog w) h k b)(m:∀o,h.get? b=some o->h'.get? b=some o):IsTupleKey (DF prog w) h' k b:=by
 obtain⟨o',items,n,CY,hc,IC,hi⟩:=z;exact⟨o',items,n,m o' CY,hc,IC,hi⟩
def fJ(S I:Addr)(h h':Heap):Prop:=∀b o,b≠S->b≠I->h.get? b=some o->h'.get? b=some o
theorem vD{l S I:Addr}{items:Array Value}{kks:List (List Int)}(hh:A.in1.handled=none)(hu:A.in1.units<cLine)(NA:S≠I)(Ph:l≠S)(Td:l≠I){R:Result->Shared->Prop}(CO:kks.length=items.size)(Ys:items.size<=17) : ∀(k i:Nat)(s:Shared)(acc:List (List Int)),items.size-i=k->i<=items.size->acc.length<=i->s.heap.IsList l items->s.heap.IsListIter I l i->Hm prog w s.heap S acc->
  (∀(j:Nat)(v:Value),items[j]? = some v->∃q b,kks[j]? = some q/\v=.ref b/\b≠S/\b≠I/\IsTupleKey (DF prog w) s.heap q b)->
  (∀h' tk,fJ S I s.heap h'->Hm prog w h' S (EN acc (kks.drop i))->R (.ok (.ret .none)) { s with heap:=h',toks:=tk })->
  codeAny (model prog w) A (.builtin "set.update.loop" ⟨[.ref S,.ref I],[]⟩) R s:=by
 intro k
 induction k with
 |zero=>
  intro i s acc hk hi kO hl hI hS hit hR;have Yh:i=items.size:=by lia
  refine codeAny_builtin PyProof.Rows.F.entry_set_update_loop ?_;rw[Around.under_plainId PyProof.Rows.F.plain_set_update_loop _];show wpAny _ A.in1 (pyNext (.ref I) >>= _) _ _ s;refine wpAny_bind (wpAny_pyNext_list_end hh hI hl (by simp;lia) λh' eb=>?_);dsimp only;have kE:Hm prog w h' S acc:=by
   obtain⟨o,es,ep,t,kk,ho,hex,hd,T,hp⟩:=hS;refine⟨o,es,ep,t,kk,eb S o NA ho,hex,hd,T.move λk' b z=>?_,hp⟩;obtain⟨oI,Tn,kY,TN⟩:=hI;refine Nf z λo' e=>eb b o' (λzz=>?_) e;subst zz;obtain⟨o2,mO,n2,NQ,kX,hd2,_⟩:=z;rw[Tn]at NQ;cases NQ;rw[TN]at hd2;cases hd2
  refine wpAny_pure ?_;have:=hR h' s.toks (λb o h1 h2 e=>eb b o h2 e);rw[List.drop_of_length_le (show kks.length<=i by lia)]at this;exact this kE
 |succ k ih=>
  intro i s acc hk hi kO hl hI hS hit hR;have B4:i<items.size:=by lia
  have hv:items[i]? = some items[i]:=Array.getElem?_eq_getElem B4;obtain⟨q,b,eq,ev,xY,kT,Tb⟩:=hit i _ hv;refine codeAny_builtin PyProof.Rows.F.entry_set_update_loop ?_;rw[Around.under_plainId PyProof.Rows.F.plain_set_update_loop _];show wpAny _ A.in1 (pyNext (.ref I) >>= _) _ _ s;refine wpAny_bind (wpAny_pyNext_list_item hI hl hv λh1 j6 sb=>?_);have moved:∀c o,c≠I->s.heap.get? c=some o->h1.get? c=some o:=λc o hc e=>(sb.2 c hc).trans e;rw[ev];dsimp only;refine wpAny_bind (wpAny_holding ?_);unfold setAdd;refine wpAny_holding ?_;have Yn:IsTupleKey (DF prog w) h1 q b:=Nf Tb λo e=>moved b o kT e;have kF:Hm prog w h1 S acc:=by
   obtain⟨o,es,ep,t,kk,ho,hex,hd,T,hp⟩:=hS;refine⟨o,es,ep,t,kk,moved S o NA ho,hex,hd,T.move λk' c z=>?_,hp⟩;obtain⟨oI,Tn,kY,TN⟩:=hI;refine Nf z λo' e=>moved c o' (λzz=>?_) e;subst zz;obtain⟨o2,mO,n2,NQ,kX,hd2,_⟩:=z;rw[Tn]at NQ;cases NQ;rw[TN]at hd2;cases hd2
  refine wpAny_bind (wpAny_pyHash_tuple (s:={ s with heap:=h1 }) hu Yn ?_);refine wm (s:={ s with heap:=h1,toks:=s.toks+(q.length+1) }) kF Yn hu (by lia) λh2 r sE Le=>?_;refine wpAny_pure ⟨plainId_quiet PyProof.Rows.F.plain_set_update_loop _,?_⟩;have QD:∀c o,c≠S->h1.get? c=some o->h2.get? c=some o:=λc o hc e=>(sE.2 c hc).trans e;refine ih (i+1) _ _ (by lia) B4 ?_ ?_ ?_ Le (λj v hj=>?_) λh3 tk ht kG=>?_
  ·split
   ·lia
   ·simp;lia
  ·exact hl.at λo e=>QD l o Ph (moved l o Td e)
  ·exact j6.at λo e=>QD I o (Ne.symm NA) e
  ·obtain⟨q',b',e1,e2,e3,e4,e5⟩:=hit j v hj;exact⟨q',b',e1,e2,e3,e4,Nf e5 λo e=>QD b' o e3 (moved b' o e4 e)⟩
  ·have NF:kks.drop i=q::kks.drop (i+1):=by
    have Yr:i<kks.length:=by lia
    rw[List.drop_eq_getElem_cons Yr];rw[List.getElem?_eq_getElem Yr]at eq;rw[Option.some.inj eq]
   refine hR h3 tk (λc o c1 c2 e=>ht c o c1 c2 (QD c o c1 (moved c o c2 e))) ?_;rw[NF];exact kG
end
end ST
set_option linter.all false
set_option maxRecDepth 100000
namespace ST
open PySem PySem.SetTable
section
variable{prog:Program}{w:World}{A:Around}{E:Value->Shared->Prop}{s:Shared}
abbrev Hy(led:Bool):Obj:={ cls:=.type "set",dict:=none,data:=.set #[] 0 (.fresh 0 0 led) }
theorem jk{h:Heap}(led:Bool):FL prog w h #[] (.fresh 0 0 led) []:=
 by
 refine⟨rfl,.inl rfl,.nil,(λj hj=>by cases hj),rfl,(show 0*5<7*3 by decide),rfl,λi hh v e=>?_,List.nodup_nil,λi j k e _=>?_⟩
 ·simp at e
 ·simp[SetTable.fresh]at e
set_option maxHeartbeats 3200000 in
theorem gQ{l:Addr}{items:Array Value}{kks:List (List Int)}{Q:Value->Shared->Prop}(hh:A.handled=none)(hu:A.units+8<cLine)(hl:s.heap.IsList l items)(CO:kks.length=items.size)(Ys:items.size<=17) (hit:∀(j:Nat)(v:Value),items[j]? = some v->∃q b,kks[j]? = some q/\v=.ref b/\IsTupleKey (DF prog w) s.heap q b) (h:∀(h':Heap)(tk:Nat),Hm prog w h' s.heap.objs.size (EN [] kks)->(∀b o,s.heap.get? b=some o->h'.get? b=some o)->Q (.ref s.heap.objs.size) { s with heap:=h',toks:=tk }) : wpAny (model prog w) A (call (.type "set") [.ref l]) Q E s:=by
 obtain⟨c0,yX,xf⟩:=F.called_set.mro;have xx:=F.called_set.made;have yS:=F.called_set.sub;refine wpAny_call (codeAny_of_tree ?_);show wpAny _ _ (callAny (.type "set") _) _ _ _;refine wpAny_pure ⟨Code.quiet_builtin _ (by decide +kernel),codeAny_builtin F.entry_type_call ?_⟩;rw[Around.under_plain (weight_type_call_type "set" [.ref l] []) rfl];have x6:=F.called_set.notType;have xK:=F.called_set.canCreate;have xM:=F.typeCall_set_1 (.ref l)
 repeat (any_goals (first|assumption|wp_step))
 let made (led:Bool):Shared:={ s with heap:=s.heap.push (Hy led) }
 refine codeAny_mono (code_set_new_1 (.ref l) (E:=E) (Q₁:=λob st=>∃led:Bool,ob=.ref s.heap.objs.size/\st=made led) λled=>⟨led,rfl,rfl⟩) λr1 yR Tt=>?_;cases r1 with
 |error e=>exact Tt
 |ok fl=>
  cases fl with
  |ret ob=>
   obtain⟨led,rfl,rfl⟩:=Tt;have YT:(s.heap.push (Hy led)).get? s.heap.objs.size=some (Hy led):=Heap.get?_push_size _ rfl;have uz:Shared.TypeIs (made led) (.ref s.heap.objs.size) "set":=⟨_,YT,rfl⟩;have xw:=F.called_set.init.lookup;have xH:=F.called_set.init.bind (.ref s.heap.objs.size);show wpAny _ _ _ _ _ (made led)
   repeat (any_goals (first|assumption|wp_step))
   refine codeAny_mono (codeAny_call_builtin (R:=wants (λrv Jb=>rv=.none/\∃h2 tk,Jb={ s with heap:=h2,toks:=tk }/\Hm prog w h2 s.heap.objs.size (EN [] kks)/\(∀b o,s.heap.get? b=some o->h2.get? b=some o)) E)
    F.called_set.init.plain F.entry_set_init (check_set_init_1 uz ?_)) λr2 Jb Tu=>?_
   ·obtain⟨ol,Yz,Pd,nl,TQ⟩:=id hl;obtain⟨x8,oE,x9,qC⟩:=ol;simp only at Pd TQ;subst Pd;subst TQ;have lQ:(s.heap.push (Hy led)).get? l=some { cls:=.type "list",dict:=oE,data:=.seq items nl,slots:=qC }:=Heap.get?_push_of_some _ Yz;have xm:=F.sub_list_set;have xl:=F.sub_list_frozenset;have Aw:(Value.type "list" == Value.type "dict")=false:=by decide
    have HW:(s.heap.push (Hy led)).IsList l items:=⟨_,lQ,rfl,nl,rfl⟩;unfold Builtin.«set.__init__» noKeywords Builtin.Frozenset.updateFrom;generalize kB:pyIter=PI
    wp_walk
    subst kB;refine wpAny_pyIter_list HW ?_;refine wpAny_bind (wpAny_runValue ?_);have Ph:l<s.heap.objs.size:=Heap.lt_size Yz;have Po:(s.heap.push (Hy led)).objs.size=s.heap.objs.size+1:=Heap.size_push ..;have NA:s.heap.objs.size≠(s.heap.push (Hy led)).objs.size:=by rw[Po];exact Nat.ne_of_lt (Nat.lt_succ_self _)
    have Td:l≠(s.heap.push (Hy led)).objs.size:=by rw[Po];exact Nat.ne_of_lt (Nat.lt_succ_of_lt Ph)
    refine vD (l:=l) (items:=items) (kks:=kks) (S:=s.heap.objs.size) (I:=(s.heap.push (Hy led)).objs.size) (by simp[hh]) (by simp;lia) NA (Nat.ne_of_lt Ph) Td CO Ys (items.size-0) 0 _ [] (by lia) (Nat.zero_le _) (Nat.zero_le _) (HW.push _) ⟨_,Heap.get?_push_size _ rfl,rfl,rfl⟩ ?hS0 ?hit ?hR
    case hS0=>exact⟨_,_,_,_,[],Heap.get?_push_of_some _ YT,⟨rfl,rfl,rfl⟩,rfl,jk led,.nil⟩
    case hit=>
     intro j v hj;obtain⟨q,b,e1,e2,e3⟩:=hit j v hj;have hb:b<s.heap.objs.size:=by
      obtain⟨o2,_,_,e4,_⟩:=e3;exact Heap.lt_size e4
     exact⟨q,b,e1,e2,Nat.ne_of_lt hb,by rw[Po];exact Nat.ne_of_lt (Nat.lt_succ_of_lt hb),Nf e3 λo e=>Heap.get?_push_of_some _ (Heap.get?_push_of_some _ e)⟩
    case hR=>
     intro h2 tk ht Le;rw[List.drop_zero]at Le;refine wpAny_pure ?_;show wpAny _ _ (ret Value.none) _ _ _;refine wpAny_pure ⟨rfl,h2,tk,rfl,Le,λb o e=>?_⟩;have hb:=Heap.lt_size e;exact ht b o (Nat.ne_of_lt hb) (by rw[Po];exact Nat.ne_of_lt (Nat.lt_succ_of_lt hb)) (Heap.get?_push_of_some _ (Heap.get?_push_of_some _ e))
   ·cases r2 with
    |error e=>exact Tu
    |ok ja=>
     cases ja with
     |ret rv=>
      obtain⟨rfl,h2,tk,rfl,Le,KO⟩:=Tu
      repeat (any_goals (first|assumption|wp_step))
      exact h _ _ Le KO
     |_=>exact Tu.elim
  |_=>exact Tt.elim
end
end ST
namespace L2
open PySem PySem.Spec PyProof.Rows
def G8(env:Env):Str×NameKind->Str×NameKind:=λ(n,k)=>if(k==NameKind.free&&env.scope.kind == .function&&env.kindOf n==some .cell)then(n,NameKind.cell)else(n,k)
theorem bg(env:Env)(y:Str×NameKind):(G8 env y).1=y.1:=by unfold G8;dsimp only;split<;>rfl
theorem bj(env:Env)(y:Str×NameKind):((G8 env y).2=.cell/\y.2=.free)\/(G8 env y).2=y.2:=by
 unfold G8;dsimp only;split
 ·rename_i h;simp only[Bool.and_eq_true,beq_iff_eq]at h;exact .inl ⟨rfl,h.1.1⟩
 ·exact .inr rfl
theorem Zs{env:Env}:∀{names:List (Str×NameKind)}{x:Str},names.lookup x=some .free->(names.map (G8 env)).lookup x=some .cell\/(names.map (G8 env)).lookup x=some .free
 |[],_,h=>by simp at h
 |(n,k)::r,x,h=>by
  have ih:=@Zs env r x;have e1:=bg env (n,k);have e2:=bj env (n,k);rw[List.map_cons];generalize G8 env (n,k)=y at e1 e2;obtain⟨m,j⟩:=y;obtain rfl:m=n:=e1;cases hx:x==m with
  |true=>
   simp only[List.lookup_cons,hx]at h ⊢;cases h;rcases e2 with⟨z,_⟩|z
   ·exact .inl (congrArg some z)
   ·exact .inr (congrArg some z)
  |false=>
   simp only[List.lookup_cons,hx]at h ⊢;exact ih h
theorem YO{env:Env}:∀{names:List (Str×NameKind)}{x:Str},((names.map (G8 env)).lookup x=some .cell\/(names.map (G8 env)).lookup x=some .free)->(x,NameKind.free)∈names\/names.lookup x=some .cell
 |[],_,h=>by simp at h
 |(n,k)::r,x,h=>by
  have ih:=@YO env r x;have e1:=bg env (n,k);have e2:=bj env (n,k);rw[List.map_cons]at h;generalize G8 env (n,k)=y at e1 e2 h;obtain⟨m,j⟩:=y;obtain rfl:m=n:=e1;cases hx:x==m with
  |true=>
   obtain rfl:x=m:=by simpa using hx
   simp only[List.lookup_cons,hx,Option.some.injEq]at h ⊢;have e2:(j=.cell/\k=.free)\/j=k:=e2;rcases e2 with⟨_,rfl⟩|rfl
   ·exact .inl List.mem_cons_self
   ·rcases h with rfl|rfl
    ·exact .inr rfl
    ·exact .inl List.mem_cons_self
  |false=>
   simp only[List.lookup_cons,hx]at h ⊢;rcases ih h with e|e
   ·exact .inl (List.mem_cons_of_mem _ e)
   ·exact .inr e
theorem Ow:∀(names:List (Str×NameKind))(n:Nat)(acc:List (Str×Addr)),cellsFrom n names acc=cellsFrom n names []++acc
 |[],_,_=>rfl
 |(x,k)::r,n,acc=>by
  unfold cellsFrom;split
  ·rw[Ow r (n+1) ((x,n)::acc),Ow r (n+1) [(x,n)],List.append_assoc];rfl
  ·exact Ow r n acc
theorem Sg:∀(names:List (Str×NameKind))(n:Nat)(acc:List (Str×Addr)){x:Str}{c:Addr},(x,c)∈cellsFrom n names acc->(x,c)∈acc\/(x,NameKind.cell)∈names
 |[],_,_,_,_,h=>.inl h
 |(y,k)::r,n,acc,x,c,h=>by
  unfold cellsFrom at h;split at h
  ·rename_i hk;rcases Sg r _ _ h with z|z
   ·rcases List.mem_cons.mp z with e|e
    ·right;have e1:x=y:=congrArg Prod.fst e;have e2:k=.cell:=by simpa using hk
     rw[e1,e2];exact List.mem_cons_self
    ·exact .inl e
   ·exact .inr (List.mem_cons_of_mem _ z)
  ·rcases Sg r _ _ h with z|z
   ·exact .inl z
   ·exact .inr (List.mem_cons_of_mem _ z)
theorem Lu{l m:List (Str×Addr)}{x:Str}{c:Addr}(h:(l++m).lookup x=some c):l.lookup x=some c\/(l.lookup x=none/\m.lookup x=some c):=by
 rw[List.lookup_append]at h;cases e:l.lookup x with
 |none=>rw[e]at h;exact .inr ⟨rfl,h⟩
 |some d=>rw[e]at h;exact .inl h
theorem wo{M:Model}{A:Around}{E:Value->Shared->Prop}{s:Shared}{scope:Scope}{globals:Addr}{closure:List (Str×Addr)}{qual:Str}{outer:Env}{Q:Env->Shared->Prop} (hQ:Q { scope:=scope,locals:=s.heap.objs.size,globals:=globals,cells:=cellsFrom (s.heap.objs.size+1) scope.names []++closure,qual:=qual,func:=none,code:=outer.code,frame:=outer.frame,builtins:=outer.builtins } { s with heap:=pushCells (s.heap.push { cls:=.type "dict",data:=.dict #[] }) scope.names }) : wpAny M A (newFunctionEnv scope globals closure [] qual none .none (some outer)) Q E s:=by
 simp only[newFunctionEnv,Option.isSome_some,if_true];refine wpAny_bind (wpAny_alloc ?_);refine wpAny_bind (wpAny_layCells _ (λname kind cells=>by cases lA:kind==NameKind.cell<;>simp[lA]) _ _ _ _ ?_);rw[show({ s with heap:=s.heap.push { cls:=.type "dict",data:=.dict #[] } }:Shared).heap.objs.size=s.heap.objs.size+1 from Heap.size_push ..,Ow];exact wpAny_bind (wpAny_pure (wpAny_pure hQ))
theorem LR{cells:List (Str×Addr)}{x:Str}{c:Addr}(hc:cells.lookup x=some c):∀{l:List (Str×NameKind)}{acc:List (Str×Addr)},((x,NameKind.free)∈l\/acc.lookup x=some c)->(Du cells l acc).lookup x=some c
 |[],acc,h=>by
  rcases h with h|h
  ·cases h
  ·exact h
 |(n,k)::r,acc,h=>by
  unfold Du;by_cases hk:(k==NameKind.free)=true
  ·rw[if_pos hk];by_cases hn:x=n
   ·subst hn;rw[hc];exact LR hc (.inr (by simp[List.lookup_cons]))
   ·have hx:(x==n)=false:=by simpa using hn
    have h':(x,NameKind.free)∈r\/acc.lookup x=some c:=by
     rcases h with h|h
     ·rcases List.mem_cons.mp h with e|e
      ·exact absurd (congrArg Prod.fst e) hn
      ·exact .inl e
     ·exact .inr h
    cases hd:cells.lookup n with
    |none=>exact LR hc h'
    |some d=>
     refine LR hc ?_;rcases h' with e|e
     ·exact .inl e
     ·right;rw[List.lookup_cons,hx];exact e
  ·rw[if_neg hk];refine LR hc ?_;rcases h with h|h
   ·rcases List.mem_cons.mp h with e|e
    ·have:k=.free:=(congrArg Prod.snd e).symm;rw[this]at hk;exact absurd rfl hk
    ·exact .inl e
   ·exact .inr h
def Cw(X:Cx)(Nb:List Str)(scope:Scope)(C:Addr)(s:Shared)(H:Hp)(fp:List Addr)(AH:List (Addr×Obj)):Cx:=
 { X with N:=Nb,DM:=s,Ao:=H,env:=compEnvC scope (cellsFrom (C+1) scope.names []++Du X.env.cells scope.names []) C X.env,outer:=X.stack,stack:=X.stack,ex:=fp,fn:=λx=>scope.names.lookup x==some NameKind.cell,pn:=X.pn++AH,xe:=λ_ _=>False }
def HH(X:Cx)(ifs:List Expr)(t:TT):Prop:=
 ∀(AH:List (Addr×Obj))(s:Shared)(σ:St)(H:Hp)(Q:Bool->Hp->Prop),Inv X AH σ H s->t σ H Q->wpAny (model X.prog X.w) X.A (forIn ifs true λc r=>if r=true then do let ok<-isTrue c X.env (eval c X.env);pure (ForInStep.yield ok)else pure (ForInStep.yield r)) (TP X AH σ Q) X.xe s
theorem qg{X:Cx}:HH X [] (λ_ H Q=>Q true H):=λ_ _ _ H _ I h=>wpAny_tests_nil ⟨H,I,h⟩
theorem qh{X:Cx}{c:Expr}{t:TT}(h:PT X c t):HH X [c] t:=λAH s σ H Q I q=>wpAny_tests_one (h AH s σ H Q I q)
structure IW(X:Cx)(scope:Scope)(Nb:List Str)(own:Nat)(cap:List Nat):Prop where
 kind:scope.kind=.function
 cell:∀y∈scope.names,y.2=.cell->scope.names.lookup y.1=some .cell
 loc:∀x∈scope.names,x.2=.local->scope.names.lookup x.1=some .local
 free:∀y∈scope.names,y.2=.free->X.env.kindOf y.1=some .cell\/X.env.kindOf y.1=some .free
 len:Nb.length=own+cap.length
 cap:∀k j,cap[k]? = some j->∃x,Nb[own+k]? = some x/\X.N[j]? = some x/\scope.names.lookup x=some .free
def Fw(own:Nat)(cap:List Nat)(σ:St):St:=List.replicate own none++cap.map λj=>(σ[j]?).join
theorem gT{own:Nat}{cap:List Nat}{σ:St}{i:Nat}{v:V}(h:(Fw own cap σ)[i]? = some (some v)):∃k j,i=own+k/\cap[k]? = some j/\σ[j]? = some (some v):=by
 unfold Fw at h;by_cases hi:i<own
 ·rw[List.getElem?_append_left (by simpa using hi),List.getElem?_replicate]at h;split at h<;>simp at h
 ·rw[List.getElem?_append_right (by simpa using hi),List.getElem?_map]at h;simp only[List.length_replicate]at h;cases hj:cap[i-own]? with
  |none=>rw[hj]at h;simp at h
  |some j=>
   rw[hj]at h;simp only[Option.map_some,Option.some.injEq]at h;refine⟨i-own,j,by omega,hj,?_⟩;cases hs:σ[j]? with
   |none=>rw[hs]at h;simp at h
   |some o=>rw[hs]at h;simp at h;rw[h]
section
variable{X:Cx}{tg iter elt:Expr}{ifs:List Expr}{scope:Scope}{pos:Pos}{Nb:List Str}{own:Nat}{cap:List Nat}{wi:TI}{g:TG}{ti:TT}{te:TE}
def ck(own:Nat)(cap:List Nat)(g:TG)(ti:TT)(te:TE)(J:It)(σ:St)(H1:Hp)(Q:VK):Prop:=∀D,H1 D=none->∃W:Nat->Nat->St->Hp->Prop,(∃m,W 0 m (Fw own cap σ) (upd H1 D (.lst [])))/\∀i m Aq H',W i m Aq H'->(J.stop i H'/\Q (.ref D) H')\/(J.go i H'/\∃N:St->Hp->Prop,(∀IU FK,N IU FK->∃m',m'<m/\W (i+1) m' IU FK)/\
  ∀x FK,J.RF i H' x FK->g x Aq FK λEy H2=>ti Ey H2 λb H3=>if b=true then te Ey H3 λv H4=>∃ys,H4 D=some (.lst ys)/\ys.length<sizeLine/\N Ey (upd H4 D (.lst (ys ++ [v])))else N Ey H3)
theorem Nu{C:Addr}{x:Str}{c:Addr}(h:(cellsFrom (C+1) scope.names []).lookup x=some c):C<c:=by
 let h0:Heap:={ objs:=Array.replicate (C+1) default }
 have ok:=cellsFrom_ok scope.names h0 (C+1) [] ⟨λ_ _ hm=>(nomatch hm),List.Pairwise.nil⟩ (by simp[h0]);rw[show h0.objs.size=C+1 by simp[h0]]at ok;exact(ok.empty x c (PySem.mem_of_lookup h)).2
theorem own_apart{C:Addr}:(cellsFrom (C+1) scope.names []).Pairwise λx y=>x.2≠y.2:=by
 let h0:Heap:={ objs:=Array.replicate (C+1) default }
 have ok:=cellsFrom_ok scope.names h0 (C+1) [] ⟨λ_ _ hm=>(nomatch hm),List.Pairwise.nil⟩ (by simp[h0]);rw[show h0.objs.size=C+1 by simp[h0]]at ok;exact ok.apart
theorem Wk{AH:List (Addr×Obj)}{s:Shared}{σ:St}{H:Hp}(I:Inv X AH σ H s){l:List (Str×NameKind)}{x:Str}{c:Addr}(h:(Du X.env.cells l []).lookup x=some c):c<s.heap.objs.size:=by
 obtain⟨v,o,ho,_⟩:=I.cell x c (Hu (λ_ _ z=>by cases z) h);exact Heap.lt_size ho
theorem gx{C:Addr}{s:Shared}{H:Hp}{fp:List Addr}{AH:List (Addr×Obj)}{σ:St}(O:IW X scope Nb own cap)(I:Inv X AH σ H s)(f:∀b∈fp,GQ X AH H b)(hC:s.heap.objs.size<=C)(NH:∀b∈fp,b<s.heap.objs.size) : (Cw X Nb scope C s H fp AH).Ok:=by
 refine⟨I.ok.mod,O.kind,I.ok.glob,I.ok.blt,hC,λx y c h1 h2=>?_,λx hx=>?_,λx c h h2=>?_,I.ok.hd,I.ok.frames,.inl rfl,λb hb=>⟨?_,λx c h=>?_⟩,I.bs,Nat.le_trans I.ok.Ih I.sz,λb o e hb=>?_,λb hb z=>?_,I.stack,I.cN⟩
 ·rcases Lu h1 with z1|⟨_,z1⟩<;>rcases Lu h2 with z2|⟨_,z2⟩
  ·exact name_of_addr own_apart (PySem.mem_of_lookup z1) (PySem.mem_of_lookup z2)
  ·exact absurd (Nu z1) (Nat.not_lt.mpr (Nat.le_trans (Nat.le_of_lt (Wk I z2)) hC))
  ·exact absurd (Nu z2) (Nat.not_lt.mpr (Nat.le_trans (Nat.le_of_lt (Wk I z1)) hC))
  ·exact I.ok.inj x y c (Hu (λ_ _ z=>by cases z) z1) (Hu (λ_ _ z=>by cases z) z2)
 ·show ∃c,(cellsFrom (C+1) scope.names []++Du X.env.cells scope.names []).lookup x=some c;rw[List.lookup_append];rcases YO hx with hm|hm
  ·obtain⟨c,hc⟩:=I.ok.has x (O.free _ hm rfl);cases (cellsFrom (C+1) scope.names []).lookup x with
   |none=>exact⟨c,LR hc (.inl hm)⟩
   |some d=>exact⟨d,rfl⟩
  ·obtain⟨c,hc⟩:=Ov (n:=C+1) hm;exact⟨c,by rw[hc];rfl⟩
 ·have hx:scope.names.lookup x=some .cell:=by simpa[Cw]using h
  obtain⟨c',HU⟩:=Ov (n:=C+1) hx;rcases Lu h2 with z|⟨z,_⟩
  ·exact Nat.le_trans hC (Nat.le_of_lt (Nu z))
  ·rw[HU]at z;cases z
 ·exact Nat.ne_of_lt (Nat.lt_of_lt_of_le (NH b hb) hC)
 ·rcases Lu h with z|⟨_,z⟩
  ·exact Ne.symm (Nat.ne_of_lt (Nat.lt_trans (Nat.lt_of_lt_of_le (NH b hb) hC) (Nu z)))
  ·exact(f b hb).2.2.2.2.1 x c (Hu (λ_ _ z=>by cases z) z)
 ·rcases(f b hb).2.2.2.1 with z|z
  ·exact I.ok.Nq b o e z
  ·exact absurd (Nat.lt_of_lt_of_le (Heap.lt_size e) (Nat.le_trans I.ok.Ih z)) (Nat.lt_irrefl _)
 ·rcases List.mem_cons.mp (I.Qz b z)with e|e
  ·exact(f b hb).2.1 e
  ·exact(f b hb).2.2.1 e
theorem gw{C:Addr}{s s':Shared}{H H':Hp}{fp:List Addr}{AH:List (Addr×Obj)}{σ:St}{m:Str->Option Value}(O:IW X scope Nb own cap)(I:Inv X AH σ H s)(ok:(Cw X Nb scope C s H fp AH).Ok) (lR:s'.os=s.os) (hg:AllBare s'.gens) (u:Un (E3 X.stack) fp H H' s.heap s'.heap) (k:∀b o,s.heap.get? b=some o->s'.heap.get? b=some o) (hC:s.heap.objs.size<=C) (hn:s'.heap.Ns C m) (hf:H' C=none) (Yu:∀b o,s.heap.get? b=some o->H b=none->H' b=none) (A2:Cv X.prog X.w H' s'.heap) (Y1:∀x c,(cellsFrom (C+1) scope.names []).lookup x=some c->s'.heap.IsCell c none/\H' c=none) : Inv (Cw X Nb scope C s H fp AH) [] (Fw own cap σ) H' s':=by
 refine⟨ok,lR,hg,u,⟨m,hn,λi x v h1 h2 h3=>?_⟩,λx c h=>?_,hf,λx c h=>?_,λp hp=>?_,A2,?_⟩
 ·obtain⟨kk,j,rfl,hj,hs⟩:=gT h2;obtain⟨y,e1,e2,e3⟩:=O.cap kk j hj;have T3:y=x:=by
   have PU:Nb[own+kk]? = some x:=h1;rw[e1]at PU;exact Option.some.inj PU
  subst T3;have hm:(y,NameKind.free)∈scope.names:=PySem.mem_of_lookup e3;have hk:=O.free _ hm rfl;have hv:Ia X.env.scope y:=by
   rcases hk with z|z
   ·exact .inr (.inl z)
   ·exact .inr (.inr z)
  obtain⟨m0,NP,hl⟩:=I.loc;obtain⟨u0,r,l⟩:=hl j y v e2 hs hv;refine⟨u0,r,?_⟩;rcases l with⟨l,_⟩|⟨_,c,hc,Pc⟩
  ·rcases hk with z|z<;>(rw[l]at z;cases z)
  ·refine .inr ⟨Zs e3,c,?_,Pc.keeps k⟩;show(cellsFrom (C+1) scope.names []++Du X.env.cells scope.names []).lookup y=some c;rw[List.lookup_append];cases eo:(cellsFrom (C+1) scope.names []).lookup y with
   |none=>exact LR hc (.inl hm)
   |some d=>
    rcases Sg _ _ _ (PySem.mem_of_lookup eo)with z|z
    ·exact nomatch z
    ·have:=O.cell _ z rfl;rw[e3]at this;cases this
 ·rcases Lu h with z|⟨_,z⟩
  ·exact⟨_,(Y1 x c z).1⟩
  ·obtain⟨v,z⟩:=I.cell x c (Hu (λ_ _ z=>by cases z) z);exact⟨v,z.keeps k⟩
 ·rcases Lu h with z|⟨_,z⟩
  ·exact(Y1 x c z).2
  ·have hc:=Hu (λ_ _ z=>by cases z) z;obtain⟨v,o,ho,_⟩:=I.cell x c hc;exact Yu c o ho (I.HQ x c hc)
 ·have F4:p∈X.pn++AH:=by
   have:p∈(X.pn++AH) ++ []:=hp;simpa using this
  obtain⟨e,n,ne,nf,d⟩:=I.pin p F4;refine⟨k _ _ e,Yu _ _ e n,Nat.ne_of_lt (Nat.lt_of_lt_of_le (Heap.lt_size e) hC),λz=>?_,d⟩;rcases List.mem_cons.mp (I.Qz p.1 z)with q|q
  ·exact ne q
  ·exact nf q
 ·show(Fw own cap σ).length=Nb.length;rw[O.len];simp[Fw]
theorem Wv{AH:List (Addr×Obj)}{s:Shared}{σ:St}{H:Hp}{Q:VK}{it:Addr}{fp:List Addr}{tn:Nat->Heap->Prop}{J:It}{E:Value->Shared->Prop}{RR:Value->Addr->Result->Shared->Prop}(hc:X.calm=true)(O:IW X scope Nb own cap) (hg:∀C s H fp AH,PG (Cw X Nb scope C s H fp AH) tg g) (ht:∀C s H fp AH,HH (Cw X Nb scope C s H fp AH) ifs ti) (he:∀C s H fp AH,PE (Cw X Nb scope C s H fp AH) elt te) (I:Inv X AH σ H s) (T:Turn X.prog X.w X.K tg J fp it tn) (st:tn 0 s.heap) (f:∀b∈fp,GQ X AH H b) (hW:ck own cap g ti te J σ H Q) (kC:∀(D C:Addr)(s':Shared)(H':Hp)(m:Str->Option Value),Inv X AH σ H' s'->s'.heap.Ns C m->GQ X AH H' C->Q (.ref D) H'->RR (.ref D) C (.ok .next) s') : wpAny (model X.prog X.w) X.A (newList []) (λacc OK=>wpAny (model X.prog X.w) X.A (newFunctionEnv scope X.env.globals (Du X.env.cells scope.names []) [] X.env.qual none .none (some X.env)) (λWj Q4=>
  codeAny (model X.prog X.w) X.A (.compStart (.ListComp elt [⟨tg,iter,ifs,0⟩] scope pos) 0 (.ref it) acc { Wj with scope:=relabel scope X.env }) (RR acc Wj.locals) Q4) E OK) E s:=by
 have NH:∀b∈fp,b<s.heap.objs.size:=λb hb=>by
  obtain⟨o,e,_⟩:=T.obj _ _ st b hb;exact Heap.lt_size e
 refine wpAny_newObj_type (wo ?_);dsimp only;have hD:H s.heap.objs.size=none:=I.A2.fresh (Nat.le_refl _);obtain⟨W,⟨m0,w0⟩,turn⟩:=hW s.heap.objs.size hD;generalize TK:s.heap.push { cls:=.type "list",dict:=none,data:=.seq ([]:List Value).toArray }=H2;have Yw:=(Heap.Ns.new H2 (.type "dict")).keeps (pushCells_keeps scope.names _);have TM:=cellsFrom_ok scope.names (H2.push { cls:=.type "dict",data:=.dict #[] }) (H2.objs.size+1) [] ⟨λ_ _ hm=>(nomatch hm),List.Pairwise.nil⟩ (by rw[Heap.size_push];exact Nat.le_refl _);rw[Heap.size_push]at TM;have UQ:∀b o,H2.get? b=some o->(pushCells (H2.push { cls:=.type "dict",data:=.dict #[] }) scope.names).get? b=some o:=λb o e=>pushCells_keeps _ _ b o (Heap.get?_push_of_some _ e);generalize xa:pushCells (H2.push { cls:=.type "dict",data:=.dict #[] }) scope.names=JJ at Yw TM UQ ⊢;have hC:H2.objs.size=s.heap.objs.size+1:=by rw[<-TK,Heap.size_push]
 have Ld:s.heap.objs.size<=H2.objs.size:=by rw[hC];exact Nat.le_succ _
 have j5:s.heap.objs.size≠H2.objs.size:=by rw[hC];exact Nat.ne_of_lt (Nat.lt_succ_self _)
 have old:∀b o,s.heap.get? b=some o->JJ.get? b=some o:=λb o e=>UQ b o (TK ▸ Heap.get?_push_of_some _ e);have fO:JJ.get? s.heap.objs.size=some { cls:=.type "list",dict:=none,data:=.seq ([]:List Value).toArray }:=UQ _ _ (TK ▸ Heap.get?_push_size _ rfl);have lP:Cv X.prog X.w (upd H s.heap.objs.size (.lst [])) JJ:=I.A2.laid old (Nat.le_refl _) ⟨Nat.zero_le _,[],0,.nil,fO⟩;have ok:=gx (C:=H2.objs.size) O I f Ld NH;have fC:∀{H':Hp},H' H2.objs.size=none->GQ X AH H' H2.objs.size:=λhn=>I.S8 Ld hn;have Ib:∀tk:Nat,Inv (Cw X Nb scope H2.objs.size s H fp AH) [] (Fw own cap σ) (upd H s.heap.objs.size (.lst [])) { s with heap:=JJ,toks:=tk }:=λtk=>
  gw O I ok rfl I.bare (Un.laid old (Nat.le_refl _) hD) old Ld Yw (by rw[CS (Ne.symm j5)];exact I.A2.fresh Ld) (λb o e n=>by rw[CS (Nat.ne_of_lt (Heap.lt_size e))];exact n) lP (λx c e=>⟨(TM.empty x c (PySem.mem_of_lookup e)).1,by
   have B4:=Nu e;rw[CS (Ne.symm (Nat.ne_of_lt (Nat.lt_of_le_of_lt Ld B4)))];exact I.A2.fresh (Nat.le_trans Ld (Nat.le_of_lt B4))⟩)
 have jh:∀b∈fp,(upd H s.heap.objs.size (.lst [])) b=none:=λb hb=>by rw[CS (Nat.ne_of_lt (NH b hb))];exact(f b hb).1
 have VX:∀{H':Hp},(∀b∈fp,H' b=none)->∀b∈fp,GQ (Cw X Nb scope H2.objs.size s H fp AH) [] H' b:=λhn b hb=>by
  refine⟨hn b hb,(ok.O6 b hb).1,ok.Mv b hb,.inl hb,(ok.O6 b hb).2,λp hp=>?_⟩;have F4:p∈X.pn++AH:=by
   have:p∈(X.pn++AH) ++ []:=hp;simpa using this
  exact(f b hb).2.2.2.2.2 p F4
 have ka:∀b∈fp,(b∈X.ex\/X.DM.heap.objs.size<=b)/\b≠X.env.locals/\(∀x c,X.env.cells.lookup x=some c->c≠b)/\∀p∈X.pn++AH,p.1≠b:=λb hb=>by
  obtain⟨_,f1,_,f3,f4,f5⟩:=f b hb;exact⟨f3,f1,f4,f5⟩
 have loop:∀tk:Nat,codeAny (model X.prog X.w) X.A (.compLoop (.ListComp elt [⟨tg,iter,ifs,0⟩] scope pos) 0 (.ref it) (.ref s.heap.objs.size) (compEnvC scope (cellsFrom (H2.objs.size+1) scope.names []++Du X.env.cells scope.names []) H2.objs.size X.env)) (RR (.ref s.heap.objs.size) H2.objs.size) { s with heap:=JJ,toks:=tk }:=λtk=>by
  refine gh (λn s'=>∃i Aq H',Inv (Cw X Nb scope H2.objs.size s H fp AH) [] Aq H' s'/\tn i s'.heap/\(∀b∈fp,H' b=none)/\W i n Aq H') ?_ m0 ⟨0,_,_,Ib tk,T.keep _ _ _ st λb _ o e=>old b o e,jh,w0⟩;rintro n s3 ⟨i,Hk,H3,I3,FG,M5,w3⟩;rcases turn i n Hk H3 w3 with⟨stop,qn⟩|⟨go,N,hN,step⟩
  ·refine Au (T.done (Cw X Nb scope H2.objs.size s H fp AH) rfl rfl rfl hc i [] s3 Hk H3 _ I3 (VX M5) FG stop) λr s4 ⟨hr,I4⟩=>?_;subst hr;obtain⟨m4,lL,_⟩:=I4.loc;exact kC _ _ s4 H3 m4 (I.gJ (s':=s4) (ch:=fp) I4.os I4.base I4.A2 I4.bare ka) lL (fC I4.free) qn
  ·refine Au (T.item (Cw X Nb scope H2.objs.size s H fp AH) rfl rfl rfl hc i [] s3 Hk H3 _ I3 (VX M5) FG go) λr s4 ⟨u,hr,h4⟩=>?_;subst hr;refine Au h4 λ_ s5 ⟨x,H5,I5,r5,y5,GK,S9⟩=>?_;have RM:=I5.pinned (VX S9) (T.obj _ _ GK);refine Au (hg H2.objs.size s H fp AH _ s5 Hk H5 x u _ RM r5 (step x H5 y5)) λ_ s6 ⟨MM,H6,I6,q6⟩=>?_;refine Au (ht H2.objs.size s H fp AH _ s6 MM H6 _ I6 q6) λb s7 ⟨H7,I7,q7⟩=>?_;have again:∀{OR:St}{H8:Hp}{s8:Shared},Inv (Cw X Nb scope H2.objs.size s H fp AH) ([]++Ny fp s5.heap) OR H8 s8->N OR H8->∃m,m<n/\∃i Aq H',Inv (Cw X Nb scope H2.objs.size s H fp AH) [] Aq H' s8/\tn i s8.heap/\(∀b∈fp,H' b=none)/\W i m Aq H':=λ{OR H8 s8} I8 n8=>by
    obtain⟨m',hm,w8⟩:=hN OR H8 n8;refine⟨m',hm,i+1,OR,H8,I8.RC,T.keep _ _ _ GK λb hb o e=>(I8.pin (b,o) (List.mem_append_right _ (List.mem_append_right _ (QA hb e)))).1,λb hb=>?_,w8⟩;obtain⟨o,e,d⟩:=T.obj _ _ GK b hb;exact(I8.pin (b,o) (List.mem_append_right _ (List.mem_append_right _ (QA hb e)))).2.1
   cases b with
   |false=>
    rw[if_neg (by simp)]at q7 ⊢;exact again I7 q7
   |true=>
    rw[if_pos rfl]at q7 ⊢;refine Au (he H2.objs.size s H fp AH _ s7 MM H7 _ I7 q7) λy s8 ⟨v,H8,I8,r8,ys,e8,z8,n8⟩=>?_;refine Au (Z2 (X:=Cw X Nb scope H2.objs.size s H fp AH) _ s8 MM H8 (.ref s.heap.objs.size) [v] (.ref s.heap.objs.size) [y] (λ_ H9=>N MM H9) I8 rfl (.cons r8 .nil) ⟨_,ys,v,rfl,rfl,e8,z8,n8⟩) λ_ s9 ⟨_,H9,I9,_,n9⟩=>again I9 n9
 refine codeAny_compStart_list (loop _) ?_;exact T.self _ 0 _ _ _ (T.keep _ _ _ st λb _ o e=>old b o e) (loop _)
def Vh(own:Nat)(cap:List Nat)(wi:TI)(g:TG)(ti:TT)(te:TE):TE:=λσ H Q=>wi σ H λJ H1=>ck own cap g ti te J σ H1 Q
theorem qK(hc:X.calm=true)(O:IW X scope Nb own cap)(hi:PI X tg iter wi)(hg:∀C s H fp AH,PG (Cw X Nb scope C s H fp AH) tg g)(ht:∀C s H fp AH,HH (Cw X Nb scope C s H fp AH) ifs ti)(he:∀C s H fp AH,PE (Cw X Nb scope C s H fp AH) elt te) (hs:∀x,foldedSetIterable iter X.env x=pure x:=by intro _;rfl):PE X (.ListComp elt [⟨tg,iter,ifs,0⟩] scope pos) (Vh own cap wi g ti te):=by
 intro AH s σ H Q I h;rw[eval_ListComp];refine wpAny_comprehension_free (use:=none) (cl:=Du X.env.cells scope.names []) rfl hs (Wl λy hy hk=>I.ok.has _ (O.free y hy hk)) O.kind O.loc (Au (hi AH s σ H _ I h) λxv s1 h1=>Au h1 λPx s2 h2=>?_);obtain⟨it,fp,tn,J,H2,rfl,I2,T,Jb,f2,hW⟩:=h2;refine Wv (RR:=λacc C=>compPost (model X.prog X.w) X.A X.xe none (EP X AH σ Q) acc C) hc O hg ht he I2 T Jb f2 hW λD C s' H' m I' hn fC q=>?_;refine⟨m,hn,λh' KR=>⟨.ref D,H',I'.turned (t':=s'.toks) (λb o hb e=>KR.extBut b o hb e) fC.1 fC.2.1 fC.2.2.2.1 fC.2.2.2.2.1 fC.2.2.2.2.2,rfl,q⟩⟩
theorem qx{y:Str}{py cL:Pos}{i:Nat}(hN:X.N.Nodup)(C4:X.N[i]? = some y)(hx:Loc X.env.scope y)(hc:X.calm=true)(O:IW X scope Nb own cap)(hi:PI X tg iter wi)(hg:∀C s H fp AH,PG (Cw X Nb scope C s H fp AH) tg g)(ht:∀C s H fp AH,HH (Cw X Nb scope C s H fp AH) ifs ti)(he:∀C s H fp AH,PE (Cw X Nb scope C s H fp AH) elt te) (IE:swapsWith (.ListComp elt [⟨tg,iter,ifs,0⟩] scope pos) (some (.Name y py)) cL.line X.env=pure true:=by rfl) (hs:∀x,foldedSetIterable iter X.env x=pure x:=by intro _;rfl) (hf:X.fn y=true\/X.env.scope.names.lookup y=some .local:=by first|exact .inl rfl|exact .inr rfl|assumption) : PS X (.Assign [.Name y py] (.ListComp elt [⟨tg,iter,ifs,0⟩] scope pos) cL) (Q5 (Vh own cap wi g ti te) (M6 i)):=by
 intro AH s σ H D I h;rw[exec_Assign_Name_used _ _ _ _ IE];refine wpAny_bind (wpAny_standAt (wpAny_bind ?_));show wpAny _ X.A (do let _<-comprehension (.ListComp elt [⟨tg,iter,ifs,0⟩] scope pos) scope X.env _ (newList []) false (eval iter X.env) (some (assign (.Name y py) X.env))) _ _ s;refine wpAny_bind (wpAny_mono (wpAny_comprehension_free (use:=some (assign (.Name y py) X.env)) (Q:=λ_ s'=>SP X AH D .next s') (cl:=Du X.env.cells scope.names []) rfl hs (Wl λy hy hk=>I.ok.has _ (O.free y hy hk)) O.kind O.loc
  (Au (hi AH s σ H _ I h) λxv s1 h1=>Au h1 λPx s2 h2=>?_)) (λ_ s' hq=>wpAny_pure (wpAny_pure hq)) λ_ _ e=>e)
 obtain⟨it,fp,tn,J,H2,rfl,I2,T,Jb,f2,hW⟩:=h2;refine Wv (RR:=λacc C=>compPost (model X.prog X.w) X.A X.xe (some (assign (.Name y py) X.env)) (λ_ s'=>SP X AH D .next s') acc C) hc O hg ht he I2 T Jb f2 hW λD' C s' H' m I' hn fC q=>?_;show wpAny _ X.A (assign (.Name y py) X.env (.ref D')) _ _ _;refine wpAny_assign_Name (cO I' hN C4 hx (v:=.ref D') rfl (λN5 ee ⟨a,NV,ha⟩=>?_) hf);have j4:C≠a:=by
  rcases ha with rfl|ha
  ·exact fC.2.1
  ·exact Ne.symm (fC.2.2.2.2.1 y a ha)
 refine⟨m,hn.sameBut NV j4,λh' KR=>?_⟩;exact⟨_,H',ee.turned (t':=N5.toks) (λb o hb e=>KR.extBut b o hb e) fC.1 fC.2.1 fC.2.2.2.1 fC.2.2.2.2.1 fC.2.2.2.2.2,q⟩
end
structure xC(P:Program)(w:World)(outer:List Env)(H:Hp)(s:Shared)(ea:Addr)(cls:Value)(B:Heap)(H':Hp)(s':Shared):Prop where
 os:s'.os=s.os
 bare:AllBare s'.gens
 un:Un (E3 outer) [] H H' s.heap s'.heap
 A2:Cv P w H' s'.heap
 xU:∃a0,Heap.FlyingW B outer ea cls a0 s'.heap
 nw:s.heap.get? ea=none
 he:H' ea=none
 b1:∀b o,s.heap.get? b=some o->b∉E3 outer->∃o',B.get? b=some o'/\(H b=none->o'=o)
 b2:∀b o,(H' b).isSome=true->s'.heap.get? b=some o->B.get? b=some o
section
variable{P:Program}{w:World}{outer:List Env}{H H':Hp}{s s':Shared}{ea:Addr}{cls:Value}{B xV:Heap}
end
section
variable{X:Cx}{AH:List (Addr×Obj)}{σ:St}{H H':Hp}{s s':Shared}{ea:Addr}{cls:Value}{B h':Heap}{vs:List Value}{M:Model}
structure xE(X:Cx):Prop where
 OH:X.stack=X.env::X.outer
 fr:X.env.frame=some X.env.locals
 ex:X.ex=[]
end
section
variable{X:Cx}{E:XK}{x:Str}{C:Addr}{xI:List Value}{B xy xp:String}{np C2 pos:Pos}{xT:Expr}{Bh:List Expr}{ta:TA}
end
section
variable{P:Program}{w:World}{K:PySem.W.Frag}{mg:Str->Option Value}{base:Heap}{N:List Str}{qual:Str}{scope:Scope}{f:Addr}{cd:Value}{A:Around}{outer:List Env}{s:Shared}{H:Hp}{E E':XK}
end
section
variable{X:Cx}{AH:List (Addr×Obj)}{σ:St}{H:Hp}{s:Shared}
def eh(ea C:Addr)(h:Heap):Prop:=∃o,h.get? ea=some o/\o.cls=.ref C
end
section
variable{X:Cx}{body yT:List Stmt}{xJ:Stmt}{x n:Str}{np xh pos:Pos}{Wc:Addr}{i:Nat}{tb:XK->TS}{ts:TS}
end
open PySem PySem.Spec PyProof.Rows PySem.W PySem.Builtin PySem.Builtin.ObjectAttr PySem.Builtin.Getset_descriptor
section
variable{K:Frag}{x D:Addr}{M:Model}{h:Heap}{prog:Program}{w:World}{A:Around}{E:Value->Shared->Prop}{s:Shared}
structure xB(K:Frag)(D:Addr):Prop where
 ga:findIn K (.ref D) "__getattribute__" = some (some (.builtin "BaseException.__getattribute__"))
 gn:findIn K (.ref D) "__getattr__" = some none
 cl:findIn K (.ref D) "__class__" = some (some (.builtin "object.__class__"))
 sp:specialIn K (.builtin "object.__class__") "__get__" = some (some (.builtin "getset_descriptor.__get__"))
 tk:takesIn K (.builtin "object.__class__")=some true
 mr:mroIn K D (.type "object")=some true
 mb:mroIn K D (.type "BaseException")=some true
 hd:hasDictIn K D=true
end
structure fI(k:Nat)(A:Around):Prop where
 dp:A.depth+3*k+5<recursionLimit
 un:A.units+16*k+200<cLine
structure xD(P:Program)(w:World)(K:PySem.W.Frag)(mg:Str->Option Value)(base:Heap)(k:Nat)(f:Addr)(fd:FuncData)(ps:List Str)(sp:List V->Hp->VK->Prop):Prop where
 len:∀vs H Q,sp vs H Q->vs.length=ps.length
 run:∀(A:Around)(outer:List Env)(s:Shared)(H:Hp)(args:Args)(us:List Value)(vs:List V)(Q:VK),fI k A->MO P w K mg base A outer s H->BindsTo s fd args (ps.zip us)->BA vs us->sp vs H Q->codeAny (model P w) A (.call (.ref f) args) (λr s'=>match r with|.ok (.ret u)=>CE outer P w H s Q u s'|_=>False) s
section
variable{X:Cx}{k:Nat}{f:Addr}{fd:FuncData}{ps:List Str}{sp:List V->Hp->VK->Prop}{x:Str}{p pos:Pos}{e:Expr}{es:List Expr}{t:TA}
end
end L2
namespace L2.PL
open PySem PySem.Spec PyProof.Rows
inductive PV where
 |Bq|bl (b:Bool)|int (i:Int)|str (x:Str)|tup (xs:List PV)|lst (xs:List PV)
 |rd (xs:List PV)
 |Fz (ks:List (List Int)) (xs:List PV)
inductive RV where
 |cl (p:PV)|bo (ps:List PV)|fr (ps:List PV)
 |bd (ks:List (List Int)) (xs:List PV)|fd (ks:List (List Int)) (xs:List PV)
inductive SV where
 |im (p:PV)|own (ps:List PV)
 |Kd (t:Option Addr) (ks:List (List Int)) (xs:List PV)
 |exc (nm:Str)
abbrev AZ:=List (Option SV)
def P2(k:List Int):List Key:=k.map Sum.inl
mutual
def Rep(K:W.Frag)(H:Hp):PV->V->Prop
 |.Bq,v=>v=.Bq
 |.bl b,v=>v=.bl b
 |.int i,v=>v=.int i
 |.str x,v=>v=.str x
 |.tup xs,v=>∃a vs,v=.ref a/\DV K H a vs/\AX K H xs vs
 |.lst xs,v=>∃a vs,v=.ref a/\Rd H a (.lst vs)/\AX K H xs vs
 |.rd xs,v=>∃a vs,v=.ref a/\DH K H a vs/\AX K H xs vs
 |.Fz ks xs,v=>∃a Bi,v=.ref a/\Rd H a (.dT Bi)/\Bi.map (·.1)=ks.map P2/\AX K H xs (Bi.map (·.2))
def AX(K:W.Frag)(H:Hp):List PV->List V->Prop
 |[],vs=>vs=[]
 |x::xs,vs=>∃v r,vs=v::r/\Rep K H x v/\AX K H xs r
end
theorem Rd.same{H H':Hp}{a:Addr}{o:HO}(s:A4 H H')(h:Rd H a o):Rd H' a o:=by
 rcases h with h|⟨ob,h⟩
 ·exact .inl (s _ _ h)
 ·exact .inr ⟨ob,s _ _ h⟩
theorem DV.same{K:W.Frag}{H H':Hp}{a:Addr}{xs:List V}(s:A4 H H')(h:DV K H a xs):DV K H' a xs:=by
 rcases h with h|h
 ·exact .inl (Rd.same s h)
 ·exact .inr h
mutual
theorem Rep.same{K:W.Frag}{H H':Hp}(s:A4 H H'):∀{p:PV}{v:V},Rep K H p v->Rep K H' p v
 |.Bq,_,h=>h
 |.bl _,_,h=>h
 |.int _,_,h=>h
 |.str _,_,h=>h
 |.tup _,_,h=>by
  unfold Rep at h ⊢;obtain⟨a,vs,e,q,r⟩:=h;exact⟨a,vs,e,DV.same s q,AX.same s r⟩
 |.lst _,_,h=>by
  unfold Rep at h ⊢;obtain⟨a,vs,e,q,r⟩:=h;exact⟨a,vs,e,Rd.same s q,AX.same s r⟩
 |.rd _,_,h=>by
  unfold Rep at h ⊢;obtain⟨a,vs,e,q,r⟩:=h;exact⟨a,vs,e,A4.seq s q,AX.same s r⟩
 |.Fz _ _,_,h=>by
  unfold Rep at h ⊢;obtain⟨a,vs,e,q,k,r⟩:=h;exact⟨a,vs,e,Rd.same s q,k,AX.same s r⟩
theorem AX.same{K:W.Frag}{H H':Hp}(s:A4 H H'):∀{ps:List PV}{vs:List V},AX K H ps vs->AX K H' ps vs
 |[],_,h=>h
 |_::_,_,h=>by
  unfold AX at h ⊢;obtain⟨v,r,e,q,t⟩:=h;exact⟨v,r,e,Rep.same s q,AX.same s t⟩
end
theorem AX.paired{K:W.Frag}{H:Hp}:∀{ps:List PV}{vs:List V},AX K H ps vs->Paired (Rep K H) ps vs
 |[],_,h=>by unfold AX at h;subst h;exact .nil
 |_::_,_,h=>by
  unfold AX at h;obtain⟨v,r,e,q,t⟩:=h;subst e;exact .cons q (AX.paired t)
theorem AX.of{K:W.Frag}{H:Hp}:∀{ps:List PV}{vs:List V},Paired (Rep K H) ps vs->AX K H ps vs
 |_,_,.nil=>by unfold AX;rfl
 |_,_,.cons q t=>by unfold AX;exact⟨_,_,rfl,q,AX.of t⟩
section
variable{α β:Type}{F:α->β->Prop}
theorem Nv:∀{xs:List α}{us:List β}{i:Nat}{x:α},Paired F xs us->xs[i]? = some x->∃u,us[i]? = some u/\F x u
 |_,_,_,_,.nil,e=>by simp at e
 |_,_,0,_,.cons r _,e=>by simp at e;subst e;exact⟨_,rfl,r⟩
 |_,_,i+1,x,.cons _ t,e=>by
  obtain⟨u,h1,h2⟩:=Nv (i:=i) (x:=x) t (by simpa using e);exact⟨u,by simpa using h1,h2⟩
theorem UX:∀{xs:List α}{us:List β}{i:Nat}{u:β},Paired F xs us->us[i]? = some u->∃x,xs[i]? = some x/\F x u
 |_,_,_,_,.nil,e=>by simp at e
 |_,_,0,_,.cons r _,e=>by simp at e;subst e;exact⟨_,rfl,r⟩
 |_,_,i+1,x,.cons _ t,e=>by
  obtain⟨u,h1,h2⟩:=UX (i:=i) (u:=x) t (by simpa using e);exact⟨u,by simpa using h1,h2⟩
theorem L5:∀{xs ys:List α}{us ws:List β},Paired F xs us->Paired F ys ws->Paired F (xs++ys) (us++ws)
 |_,_,_,_,.nil,s=>s
 |_,_,_,_,.cons r t,s=>.cons r (L5 t s)
theorem aO:∀{xs:List α}{us:List β}(n:Nat),Paired F xs us->Paired F (xs.take n) (us.take n)
 |_,_,0,_=>.nil
 |_,_,_+1,.nil=>.nil
 |_,_,n+1,.cons r t=>.cons r (aO n t)
theorem aN:∀{xs:List α}{us:List β}(n:Nat),Paired F xs us->Paired F (xs.drop n) (us.drop n)
 |_,_,0,r=>r
 |_,_,_+1,.nil=>.nil
 |_,_,n+1,.cons _ t=>aN n t
theorem qE{xs:List α}{us:List β}(h:Paired F xs us):Paired F xs.reverse us.reverse:=by
 induction h with
 |nil=>exact .nil
 |cons r t ih=>rw[List.reverse_cons,List.reverse_cons];exact L5 ih (.cons r .nil)
end
inductive Mu(H:Hp)(a:Addr):Prop
 |l {xs:List V} (h:H a=some (.lst xs)):Mu H a
 |d {Bi:List (List Key×V)} (h:H a=some (.dT Bi)):Mu H a
theorem Mu.same{H H':Hp}{a:Addr}(s:A4 H H'):Mu H a->Mu H' a
 |.l h=>.l (s _ _ h)
 |.d h=>.d (s _ _ h)
theorem Mu.get{H:Hp}{a:Addr}:Mu H a->∃o,H a=some o
 |.l h=>⟨_,h⟩
 |.d h=>⟨_,h⟩
structure A9(G H G' H':Hp):Prop where
 gg:A4 G G'
 hh:A4 H H'
 sub:A4 G' H'
 ex:∀a,Mu H a->G a=none->G' a=none
theorem A9.refl{G H:Hp}(h:A4 G H):A9 G H G H:=⟨A4.refl _,A4.refl _,h,λ_ _ n=>n⟩
theorem A9.trans{G H G1 H1 G2 H2:Hp}(a:A9 G H G1 H1)(b:A9 G1 H1 G2 H2):A9 G H G2 H2:=
 ⟨a.gg.trans b.gg,a.hh.trans b.hh,b.sub,λc h n=>b.ex c (h.same a.hh) (a.ex c h n)⟩
def FQ(G' H H':Hp):Hp:=λa=>match G' a with|some o=>some o|none=>match H a with|some _=>none|none=>H' a
theorem PQ{G' H H':Hp}:A4 G' (FQ G' H H'):=λa o h=>by unfold FQ;rw[h]
theorem YS{G' H H':Hp}{a:Addr}{o:HO}(s:A4 G' H')(h:H a=none)(h':H' a=some o):FQ G' H H' a=some o:=by
 unfold FQ;cases e:G' a with
 |some o'=>rw[s _ _ e]at h';exact h'
 |none=>rw[h];exact h'
theorem A9.all{G H G' H':Hp}(s:A9 G H G' H'):A9 G H (FQ G' H H') H':=by
 refine⟨s.gg.trans PQ,s.hh,λa o h=>?_,λa h n=>?_⟩
 ·unfold FQ at h;cases e:G' a with
  |some o'=>rw[e]at h;cases h;exact s.sub _ _ e
  |none=>
   rw[e]at h;cases e2:H a with
   |some _=>rw[e2]at h;cases h
   |none=>rw[e2]at h;exact h
 ·unfold FQ;obtain⟨o,ho⟩:=h.get;rw[s.ex a h n,ho]
theorem A9.new{G H:Hp}(s:A4 G H){a:Addr}(o:HO)(h:H a=none):A9 G H (upd G a o) (upd H a o):=by
 have g:G a=none:=s.free h;refine⟨λb u q=>by rw[CS (Ep q g)];exact q,λb u q=>by rw[CS (Ep q h)];exact q,λb u q=>?_,λb q n=>?_⟩
 ·by_cases e:b=a
  ·subst e;rw[Fm]at q ⊢;exact q
  ·rw[CS e]at q ⊢;exact s _ _ q
 ·obtain⟨o,ho⟩:=q.get;rw[CS (Ep ho h)];exact n
theorem A9.JR{G H:Hp}(s:A4 G H){a:Addr}(o:HO)(h:H a=none):A9 G H G (upd H a o):=by
 have g:G a=none:=s.free h;exact⟨A4.refl _,λb u q=>by rw[CS (Ep q h)];exact q,λb u q=>by rw[CS (Ep q g)];exact s _ _ q,λ_ _ n=>n⟩
def Cm(K:W.Frag)(H G' H':Hp):RV->V->Prop
 |.cl p,v=>Rep K G' p v
 |.bo ps,v=>∃a vs,v=.ref a/\G' a=none/\H' a=some (.lst vs)/\AX K G' ps vs
 |.fr ps,v=>∃a vs,v=.ref a/\H a=none/\G' a=none/\H' a=some (.lst vs)/\AX K G' ps vs
 |.bd ks xs,v=>∃a Bi,v=.ref a/\G' a=none/\H' a=some (.dT Bi)/\Bi.map (·.1)=ks.map P2/\AX K G' xs (Bi.map (·.2))
 |.fd ks xs,v=>∃a Bi,v=.ref a/\H a=none/\G' a=none/\H' a=some (.dT Bi)/\Bi.map (·.1)=ks.map P2/\AX K G' xs (Bi.map (·.2))
theorem Cm.step{K:W.Frag}{H G1 H1 G2 H2:Hp}{r:RV}{v:V}(s:A9 G1 H1 G2 H2)(h:Cm K H G1 H1 r v):Cm K H G2 H2 r v:=by
 cases r with
 |cl p=>exact Rep.same s.gg h
 |bo ps=>
  obtain⟨a,vs,e,g,q,r⟩:=h;exact⟨a,vs,e,s.ex a (.l q) g,s.hh _ _ q,AX.same s.gg r⟩
 |fr ps=>
  obtain⟨a,vs,e,n,g,q,r⟩:=h;exact⟨a,vs,e,n,s.ex a (.l q) g,s.hh _ _ q,AX.same s.gg r⟩
 |bd ks xs=>
  obtain⟨a,vs,e,g,q,k,r⟩:=h;exact⟨a,vs,e,s.ex a (.d q) g,s.hh _ _ q,k,AX.same s.gg r⟩
 |fd ks xs=>
  obtain⟨a,vs,e,n,g,q,k,r⟩:=h;exact⟨a,vs,e,n,s.ex a (.d q) g,s.hh _ _ q,k,AX.same s.gg r⟩
theorem Cm.back{K:W.Frag}{H0 H G' H':Hp}{r:RV}{v:V}(s:A4 H0 H)(h:Cm K H G' H' r v):Cm K H0 G' H' r v:=by
 cases r with
 |cl p=>exact h
 |bo ps=>exact h
 |fr ps=>
  obtain⟨a,vs,e,n,g,q,r⟩:=h;exact⟨a,vs,e,s.free n,g,q,r⟩
 |bd ks xs=>exact h
 |fd ks xs=>
  obtain⟨a,vs,e,n,g,q,r⟩:=h;exact⟨a,vs,e,s.free n,g,q,r⟩
def RV.list:RV->Option (List PV)
 |.cl (.lst ps)=>some ps
 |.bo ps=>some ps
 |.fr ps=>some ps
 |_=>none
theorem Cm.list{K:W.Frag}{H G' H':Hp}{r:RV}{v:V}{ps:List PV}(sub:A4 G' H')(h:Cm K H G' H' r v)(e:r.list=some ps):∃a vs,v=.ref a/\Rd H' a (.lst vs)/\AX K G' ps vs:=by
 cases r with
 |cl p=>
  cases p with
  |lst qs=>
   simp only[RV.list,Option.some.injEq]at e;subst e;have h':Rep K G' (.lst qs) v:=h;unfold Rep at h';obtain⟨a,vs,e,q,r⟩:=h';exact⟨a,vs,e,Rd.same sub q,r⟩
  |_=>simp[RV.list]at e
 |bo qs=>
  simp only[RV.list,Option.some.injEq]at e;subst e;obtain⟨a,vs,e,g,q,r⟩:=h;exact⟨a,vs,e,.inl q,r⟩
 |fr qs=>
  simp only[RV.list,Option.some.injEq]at e;subst e;obtain⟨a,vs,e,n,g,q,r⟩:=h;exact⟨a,vs,e,.inl q,r⟩
 |bd ks xs=>simp[RV.list]at e
 |fd ks xs=>simp[RV.list]at e
def RV.clean:RV->Option PV
 |.cl p=>some p
 |.fr ps=>some (.lst ps)
 |.fd ks xs=>some (.Fz ks xs)
 |.bo _=>none
 |.bd _ _=>none
theorem Cm.clean{K:W.Frag}{H G' H':Hp}{r:RV}{v:V}{p:PV}(sub:A4 G' H')(h:Cm K H G' H' r v)(e:r.clean=some p):Rep K (FQ G' H H') p v:=by
 cases r with
 |cl q=>
  simp only[RV.clean,Option.some.injEq]at e;subst e;exact Rep.same PQ h
 |bo qs=>simp[RV.clean]at e
 |fr qs=>
  simp only[RV.clean,Option.some.injEq]at e;subst e;obtain⟨a,vs,e,n,g,q,r⟩:=h;unfold Rep;exact⟨a,vs,e,.inl (YS sub n q),AX.same PQ r⟩
 |bd ks xs=>simp[RV.clean]at e
 |fd ks xs=>
  simp only[RV.clean,Option.some.injEq]at e;subst e;obtain⟨a,vs,e,n,g,q,k,r⟩:=h;unfold Rep;exact⟨a,vs,e,.inl (YS sub n q),k,AX.same PQ r⟩
def dk(K:W.Frag)(nm:Str)(C:Addr):Prop:=W.nsIn K mainGlobals nm=some (some (.ref C))
def K5(K:W.Frag)(G H:Hp):SV->V->Prop
 |.exc nm,v=>∃a C,v=.ref a/\dk K nm C/\G a=some (.ext (eh a C))
 |.im p,v=>Rep K G p v
 |.own ps,v=>∃a vs,v=.ref a/\G a=none/\H a=some (.lst vs)/\AX K G ps vs
 |.Kd t ks xs,v=>∃a Bi,v=.ref a/\G a=none/\H a=some (.dT Bi)/\Bi.map (·.1)=ks.map P2/\AX K G xs (Bi.map (·.2))/\∀b,t=some b->a=b
theorem K5.step{K:W.Frag}{G H G' H':Hp}{sv:SV}{v:V}(s:A9 G H G' H')(h:K5 K G H sv v):K5 K G' H' sv v:=by
 cases sv with
 |exc nm=>
  obtain⟨a,C,e,n,q⟩:=h;exact⟨a,C,e,n,s.gg _ _ q⟩
 |im p=>exact Rep.same s.gg h
 |own ps=>
  obtain⟨a,vs,e,g,q,r⟩:=h;exact⟨a,vs,e,s.ex a (.l q) g,s.hh _ _ q,AX.same s.gg r⟩
 |Kd t ks xs=>
  obtain⟨a,vs,e,g,q,k,r,z⟩:=h;exact⟨a,vs,e,s.ex a (.d q) g,s.hh _ _ q,k,AX.same s.gg r,z⟩
def SV.F8:SV->Bool
 |.own _=>true
 |.Kd _ _ _=>true
 |_=>false
structure CW(K:W.Frag)(G H:Hp)(ρ:AZ)(σ:St):Prop where
 sub:A4 G H
 slot:∀(i:Nat)(sv:SV),ρ[i]? = some (some sv)->∃v,σ[i]? = some (some v)/\K5 K G H sv v
 apart:∀(i j:Nat)(s t:SV)(a b:Addr),i≠j->ρ[i]? = some (some s)->s.F8=true->ρ[j]? = some (some t)->t.F8=true->σ[i]? = some (some (.ref a))->σ[j]? = some (some (.ref b))->a≠b
 len:ρ.length=σ.length
theorem CW.step{K:W.Frag}{G H G' H':Hp}{ρ:AZ}{σ:St}(s:A9 G H G' H')(h:CW K G H ρ σ):CW K G' H' ρ σ:=
 ⟨s.sub,λi sv e=>let ⟨v,e1,q⟩:=h.slot i sv e;⟨v,e1,q.step s⟩,h.apart,h.len⟩
abbrev EF:=AZ->Option RV
def tX(K:W.Frag)(f:EF):TE:=λσ H Q=>∃G ρ r,CW K G H ρ σ/\f ρ=some r/\∀v G' H',A9 G H G' H'->Cm K H G' H' r v->Q v H'
def PX(X:Cx)(e:Expr)(f:EF):Prop:=PE X e (tX X.K f)
abbrev BF:=AZ->Option Bool
def Fl(K:W.Frag)(f:BF):TT:=λσ H Q=>∃G ρ b,CW K G H ρ σ/\f ρ=some b/\∀G' H',A9 G H G' H'->Q b H'
def Eh(X:Cx)(e:Expr)(f:BF):Prop:=PT X e (Fl X.K f)
def IZ(X:Cx)(e:Expr)(f:BF):Prop:=PW X e (Fl X.K f)
abbrev AF:=AZ->Option (List RV)
def Dh(K:W.Frag)(H G' H':Hp):List RV->List V->Prop:=Paired (Cm K H G' H')
def Vk(K:W.Frag)(f:AF):TA:=λσ H Q=>∃G ρ rs,CW K G H ρ σ/\f ρ=some rs/\∀vs G' H',A9 G H G' H'->Dh K H G' H' rs vs->Q vs H'
def Dr(X:Cx)(es:List Expr)(f:AF):Prop:=PA X es (Vk X.K f)
theorem PE.imp{X:Cx}{e:Expr}{t t':TE}(h:PE X e t)(i:∀σ H Q,t' σ H Q->t σ H Q):PE X e t':=λAH s σ H Q I q=>h AH s σ H Q I (i σ H Q q)
theorem PT.imp{X:Cx}{e:Expr}{t t':TT}(h:PT X e t)(i:∀σ H Q,t' σ H Q->t σ H Q):PT X e t':=λAH s σ H Q I q=>h AH s σ H Q I (i σ H Q q)
theorem PW.imp{X:Cx}{e:Expr}{t t':TT}(h:PW X e t)(i:∀σ H Q,t' σ H Q->t σ H Q):PW X e t':=λwh AH s σ H Q I q=>h wh AH s σ H Q I (i σ H Q q)
theorem PA.imp{X:Cx}{es:List Expr}{t t':TA}(h:PA X es t)(i:∀σ H Q,t' σ H Q->t σ H Q):PA X es t':=λpos AH s σ H Q I q=>h pos AH s σ H Q I (i σ H Q q)
theorem PS.imp{X:Cx}{st:Stmt}{t t':TS}(h:PS X st t)(i:∀D σ H,t' D σ H->t D σ H):PS X st t':=λAH s σ H D I q=>h AH s σ H D I (i D σ H q)
theorem D4.imp{X:Cx}{st:List Stmt}{t t':TS}(h:D4 X st t)(i:∀D σ H,t' D σ H->t D σ H):D4 X st t':=λAH s σ H D I q=>h AH s σ H D I (i D σ H q)
def AB(i:Nat):EF:=λρ=>match ρ[i]? with|some (some (.im p))=>some (.cl p)|some (some (.own ps))=>some (.bo ps)|some (some (.Kd _ ks xs))=>some (.bd ks xs)|_=>none
def fC(p:PV):EF:=λ_=>some (.cl p)
section
variable{X:Cx}{a b c e:Expr}{es:List Expr}{fa fb fc f:EF}{pos:Pos}
theorem AG(i:Nat){x:Str}{pos:Pos}(hN:X.N[i]? = some x:=by rfl)(hv:Ia X.env.scope x:=by first|exact Or.inl rfl|exact Or.inr (Or.inl rfl)|exact Or.inr (Or.inr rfl))(hd:(x==("__debug__" : Str))=false:=by decide) (C3:(x==("__classdict__" : Str))=false:=by decide):PX X (.Name x pos) (AB i):=by
 refine PE.imp (Nx (i:=i) hN hv hd C3) λσ H Q ⟨G,ρ,r,R,e,q⟩=>?_;unfold AB at e;split at e
 ·rename_i p hp;cases e;obtain⟨v,e1,q1⟩:=R.slot i _ hp;exact⟨v,e1,q v G H (A9.refl R.sub) q1⟩
 ·rename_i ps hp;cases e;obtain⟨v,e1,q1⟩:=R.slot i _ hp;exact⟨v,e1,q v G H (A9.refl R.sub) q1⟩
 ·rename_i ks xs hp;cases e;obtain⟨v,e1,a,vs,e,g,w,k,r,_⟩:=R.slot i _ hp;exact⟨v,e1,q v G H (A9.refl R.sub) ⟨a,vs,e,g,w,k,r⟩⟩
 ·cases e
theorem Nz{v:V}{p:PV}(h:PE X e (tC v))(hr:∀G,Rep X.K G p v):PX X e (fC p):=
 PE.imp h λσ H Q ⟨G,ρ,r,R,e,q⟩=>by
  cases e;exact q v G H (A9.refl R.sub) (hr G)
theorem AL{i:Int}{j}{pos}:PX X (.Constant (.int i) j pos) (fC (.int i)):=Nz af λ_=>by unfold Rep;rfl
theorem CQ{i:Bool}{j}{pos}:PX X (.Constant (.bool i) j pos) (fC (.bl i)):=Nz qG λ_=>by unfold Rep;rfl
theorem QX{i:Str}{j}{pos}:PX X (.Constant (.str i) j pos) (fC (.str i)):=Nz qU λ_=>by unfold Rep;rfl
def f2(k:RV->RV->Option RV)(fa fb:EF):EF:=λρ=>match fa ρ with|none=>none|some x=>match fb ρ with|none=>none|some y=>k x y
def Dq(K:W.Frag)(k:RV->RV->Option RV)(r:R2):Prop:=
 ∀(x y z:RV)(H0 G H:Hp)(vx vy:V)(Q:VK),A4 G H->A4 H0 H->k x y=some z->Cm K H0 G H x vx->Cm K H0 G H y vy->(∀v G' H',A9 G H G' H'->Cm K H0 G' H' z v->Q v H')->r vx vy H Q
theorem Q7{K:W.Frag}{k:RV->RV->Option RV}{r:R2}(hk:Dq K k r){σ:St}{H:Hp}{Q:VK}(h:tX K (f2 k fa fb) σ H Q):OL r (tX K fa) (tX K fb) σ H Q:=by
 obtain⟨G,ρ,z,R,e,q⟩:=h;unfold f2 at e;cases ea:fa ρ with
 |none=>rw[ea]at e;cases e
 |some x=>
  rw[ea]at e;cases eb:fb ρ with
  |none=>rw[eb]at e;cases e
  |some y=>
   rw[eb]at e;refine⟨G,ρ,x,R,ea,λvx G1 H1 s1 rx=>⟨G1,ρ,y,R.step s1,eb,λvy G2 H2 s2 ry=>?_⟩⟩;exact hk x y z H G2 H2 vx vy Q s2.sub (s1.hh.trans s2.hh) e (rx.step s2) (ry.back s1.hh) λv G' H' s3 rz=>q v G' H' ((s1.trans s2).trans s3) rz
theorem N0{op:Operator}{k:RV->RV->Option RV}{r:R2}(ho:B3 X (binaryOp op) r)(hk:Dq X.K k r)(ha:PX X a fa)(hb:PX X b fb):PX X (.BinOp a op b pos) (f2 k fa fb):=
 PE.imp (qQ ho ha hb) λ_ _ _ h=>Q7 hk h
def scalar:V->PV->Prop
 |.int i,.int j=>i=j
 |.bl i,.bl j=>i=j
 |.str i,.str j=>i=j
 |.Bq,.Bq=>True
 |_,_=>False
theorem scalar.rep{K:W.Frag}{G:Hp}{v:V}{p:PV}(h:scalar v p):Rep K G p v:=by
 cases v<;>cases p<;>simp only[scalar]at h<;>first|exact h.elim|(subst h;unfold Rep;rfl)|(unfold Rep;rfl)
theorem Cm.int{K:W.Frag}{H0 G H:Hp}{i:Int}{v:V}(h:Cm K H0 G H (.cl (.int i)) v):v=.int i:=by
 have h':Rep K G (.int i) v:=h;unfold Rep at h';exact h'
theorem Cm.bl{K:W.Frag}{H0 G H:Hp}{i:Bool}{v:V}(h:Cm K H0 G H (.cl (.bl i)) v):v=.bl i:=by
 have h':Rep K G (.bl i) v:=h;unfold Rep at h';exact h'
def kI(C:Int->Int->Prop)[∀i j,Decidable (C i j)](g:Int->Int->PV):RV->RV->Option RV
 |.cl (.int i),.cl (.int j)=>if C i j then some (.cl (g i j))else none
 |_,_=>none
theorem UR{K:W.Frag}{C:Int->Int->Prop}[∀i j,Decidable (C i j)]{C':Int->Int->Prop}{g:Int->Int->PV}{g':Int->Int->V}(hC:∀i j,C i j->C' i j)(hg:∀i j,C i j->scalar (g' i j) (g i j)):Dq K (kI C g) (rI C' g'):=by
 intro x y z H0 G H vx vy Q sub _ e rx ry q;unfold kI at e;split at e
 ·rename_i i j;split at e
  ·rename_i hc;cases e;exact⟨i,j,rx.int,ry.int,hC i j hc,q _ G H (A9.refl sub) (hg i j hc).rep⟩
  ·cases e
 ·cases e
theorem Nr{K:W.Frag}{g:Int->Int->PV}{g':Int->Int->V}(hg:∀i j,scalar (g' i j) (g i j)):Dq K (kI (λ_ _=>True) g) (IP g'):=by
 intro x y z H0 G H vx vy Q sub _ e rx ry q;unfold kI at e;split at e
 ·rename_i i j;simp only[if_true]at e;cases e;exact⟨i,j,rx.int,ry.int,q _ G H (A9.refl sub) (hg i j).rep⟩
 ·cases e
end
end L2.PL
namespace L2.PL
open PySem PySem.Spec PyProof.Rows
section
variable{X:Cx}{a b c e:Expr}{es:List Expr}{fa fb fc f:EF}{pos:Pos}
instance{i j:Int}:Decidable (FH i j):=by unfold FH;infer_instance
instance{i j:Int}:Decidable (MN i j):=by unfold MN;infer_instance
def Aj:RV->RV->Option RV:=kI (λ_ _=>True) λi j=>.int (i-j)
def C7:RV->RV->Option RV:=kI FH λi j=>.int (i*j)
def C6:RV->RV->Option RV:=kI MN λi j=>.int (i / j)
def BI:RV->RV->Option RV:=kI (λ_ j=>0<j) λi j=>.int (i%j)
theorem Bn(ha:PX X a fa)(hb:PX X b fb):PX X (.BinOp a .Sub b pos) (f2 Aj fa fb):=N0 p8 (Nr λ_ _=>rfl) ha hb
theorem Fd(ha:PX X a fa)(hb:PX X b fb):PX X (.BinOp a .Mult b pos) (f2 C7 fa fb):=N0 ph (UR (λ_ _ h=>h) λ_ _ _=>rfl) ha hb
theorem G0(ha:PX X a fa)(hb:PX X b fb):PX X (.BinOp a .FloorDiv b pos) (f2 C6 fa fb):=N0 pU (UR (λ_ _ h=>h) λ_ _ _=>rfl) ha hb
theorem Ct(ha:PX X a fa)(hb:PX X b fb):PX X (.BinOp a .Mod b pos) (f2 BI fa fb):=N0 pf (UR (λ_ _ h=>h) λ_ _ _=>rfl) ha hb
def Ue:R2:=λx y H Q=>∃l b xs zs,x=.ref l/\y=.ref b/\Rd H l (.lst xs)/\Rd H b (.lst zs)/\xs.length+zs.length<=sizeLine/\∀p,H p=none->Q (.ref p) (upd H p (.lst (xs++zs)))
theorem pS:B3 X (binaryOp .Add) Ue:=by
 intro AH s σ H x y v u Q I rx ry h;obtain⟨l,b,xs,zs,rfl,rfl,hH,hB,hz,q⟩:=h;cases rx;cases ry;obtain⟨z,its,n,r,e⟩:=hH.ok I.A2;obtain⟨z2,IG,n2,r2,e2⟩:=hB.ok I.A2;have hl:=r.length;have KP:=r2.length;refine PySem.P.add_list e e2 ?_ (by rw[List.size_toArray,List.size_toArray];omega);have ea:its.toArray++IG.toArray=(its++IG).toArray:=by simp
 rw[ea];exact⟨.ref _,_,I.nP (t':=s.toks) (r.append r2) (by rw[List.length_append];omega),rfl,q _ I.fresh⟩
def Nd(x y:RV):Option RV:=match x.list,y.list with
 |some xs,some ys=>if xs.length+ys.length<=1000 then some (.fr (xs++ys))else none
 |_,_=>none
theorem small{n:Nat}(h:n<=1000):n<=sizeLine:=Nat.le_of_lt (cJ h)
theorem AX.len{K:W.Frag}{H:Hp}{ps:List PV}{vs:List V}(h:AX K H ps vs):ps.length=vs.length:=Paired.length h.paired
theorem pL{K:W.Frag}:Dq K Nd Ue:=by
 intro x y z H0 G H vx vy Q sub sh e rx ry q;unfold Nd at e;split at e
 ·rename_i xs ys ex ey;split at e
  ·rename_i hz;cases e;obtain⟨l,vs,rfl,hl,rl⟩:=rx.list sub ex;obtain⟨b,us,rfl,hb,rb⟩:=ry.list sub ey;have e1:=rl.len;have e2:=rb.len;refine⟨l,b,vs,us,rfl,rfl,hl,hb,small (by omega),λp hp=>?_⟩;refine q (.ref p) G _ (A9.JR sub _ hp) ?_;refine⟨p,vs++us,rfl,sh.free hp,sub.free hp,Fm,AX.of (L5 rl.paired rb.paired)⟩
  ·cases e
 ·cases e
def Ac(x y:RV):Option RV:=match x,y with
 |.cl (.int i),.cl (.int j)=>some (.cl (.int (i+j)))
 |x,y=>Nd x y
theorem pK{K:W.Frag}:Dq K Ac (λx y H Q=>IP (λi j=>.int (i+j)) x y H Q\/Ue x y H Q):=by
 intro x y z H0 G H vx vy Q sub sh e rx ry q;unfold Ac at e;split at e
 ·rename_i i j;exact .inl (Nr (K:=K) (g:=λi j=>.int (i+j)) (g':=λi j=>.int (i+j)) (λ_ _=>rfl) (.cl (.int i)) (.cl (.int j)) z H0 G H vx vy Q sub sh (by simpa[kI]using e) rx ry q)
 ·exact .inr (pL _ _ z H0 G H vx vy Q sub sh e rx ry q)
theorem Bj(ha:PX X a fa)(hb:PX X b fb):PX X (.BinOp a .Add b pos) (f2 Ac fa fb):=N0 (pR.or pS) pK ha hb
def LX(fa:EF):EF:=λρ=>match fa ρ with|some (.cl (.int i))=>some (.cl (.int (-i)))|_=>none
theorem bG(ha:PX X a fa):PX X (.UnaryOp .USub a pos) (LX fa):=PE.imp (ag dE ha) λσ H Q ⟨G,ρ,r,R,e,q⟩=>by
 unfold LX at e;split at e
 ·rename_i i ea;cases e;exact⟨G,ρ,_,R,ea,λv G' H' s rv=>⟨i,rv.int,q _ G' H' s (by show Rep _ _ _ _;unfold Rep;rfl)⟩⟩
 ·cases e
def CM:RV->RV->Option RV:=kI (λ_ _=>True) λi j=>.bl (decide (i<j))
def Co:RV->RV->Option RV:=kI (λ_ _=>True) λi j=>.bl (decide (i<=j))
def Cn:RV->RV->Option RV:=kI (λ_ _=>True) λi j=>.bl (decide (j<i))
structure DO(X:Cx)(op:CmpOp)(k:RV->RV->Option RV):Prop where
 ex:∃r,B3 X (compareOp op) r/\Dq X.K k r
theorem Dd:DO X .Lt CM:=⟨_,pd,Nr λ_ _=>rfl⟩
theorem EH:DO X .LtE Co:=⟨_,pZ,Nr λ_ _=>rfl⟩
theorem D5:DO X .Gt Cn:=⟨_,pW,Nr λ_ _=>rfl⟩
theorem DU{op:CmpOp}{k:RV->RV->Option RV}(hc:DO X op k)(ha:PX X a fa)(hb:PX X b fb)(hm:behindInMarks op b=false):PX X (.Compare a [op] [b] pos) (f2 k fa fb):=by
 obtain⟨r,ho,hk⟩:=hc.ex;exact PE.imp (qJ ho ha hb hm) λ_ _ _ h=>Q7 hk h
def AS(f:EF):BF:=λρ=>match f ρ with|some (.cl (.bl b))=>some b|_=>none
theorem Q9{K:W.Frag}{σ:St}{H:Hp}{Q:Bool->Hp->Prop}(h:Fl K (AS f) σ H Q):tX K f σ H λx H'=>∃k,x=.bl k/\Q k H':=by
 obtain⟨G,ρ,r,R,e,q⟩:=h;unfold AS at e;split at e
 ·rename_i b eb;cases e;exact⟨G,ρ,_,R,eb,λv G' H' s rv=>⟨_,rv.bl,q G' H' s⟩⟩
 ·cases e
theorem CG{op:CmpOp}{k:RV->RV->Option RV}(hc:DO X op k)(ha:PX X a fa)(hb:PX X b fb)(hm:behindInMarks op b=false):Eh X (.Compare a [op] [b] pos) (AS (f2 k fa fb)):=by
 obtain⟨r,ho,hk⟩:=hc.ex;exact PT.imp (rB ho ha hb hm) λ_ _ _ h=>Q7 hk (Q9 h)
def EI(k k':RV->RV->Option RV)(fa fb fc:EF):EF:=λρ=>match fa ρ,fb ρ with
 |some x,some y=>match k x y with
  |some (.cl (.bl true))=>(match fc ρ with|some z=>k' y z|none=>none)
  |some (.cl (.bl false))=>some (.cl (.bl false))
  |_=>none
 |_,_=>none
theorem c5{K:W.Frag}{k k':RV->RV->Option RV}{r r':R2}(hk:Dq K k r)(CC:Dq K k' r'){σ:St}{H:Hp}{Q:VK}(h:tX K (EI k k' fa fb fc) σ H Q):Vf r r' (tX K fa) (tX K fb) (tX K fc) σ H Q:=by
 obtain⟨G,ρ,z,R,e,q⟩:=h;unfold EI at e;split at e
 ·rename_i x y ea eb;refine⟨G,ρ,x,R,ea,λvx G1 H1 s1 rx=>⟨G1,ρ,y,R.step s1,eb,λvy G2 H2 s2 ry=>?_⟩⟩;split at e
  ·rename_i ek;cases ec:fc ρ with
   |none=>rw[ec]at e;cases e
   |some w=>
    rw[ec]at e;refine hk x y _ H G2 H2 vx vy _ s2.sub (s1.hh.trans s2.hh) ek (rx.step s2) (ry.back s1.hh) λv G3 H3 s3 rv=>⟨true,rv.bl,?_⟩;refine HZ ?_;refine⟨G3,ρ,w,(R.step s1).step (s2.trans s3),ec,λvw G4 H4 s4 Fe=>?_⟩;exact CC y w z H G4 H4 vy vw Q s4.sub (((s1.trans s2).trans s3).trans s4).hh e ((ry.back s1.hh).step (s3.trans s4)) (Fe.back ((s1.trans s2).trans s3).hh) λv G5 H5 s5 Km=>q v G5 H5 ((((s1.trans s2).trans s3).trans s4).trans s5) Km
  ·rename_i ek;cases e;refine hk x y _ H G2 H2 vx vy _ s2.sub (s1.hh.trans s2.hh) ek (rx.step s2) (ry.back s1.hh) λv G3 H3 s3 rv=>⟨false,rv.bl,?_⟩;refine HY ?_;exact q _ G3 H3 ((s1.trans s2).trans s3) (by show Rep _ _ _ _;unfold Rep;rfl)
  ·cases e
 ·cases e
theorem QT{op Ca:CmpOp}{k k':RV->RV->Option RV}(hc:DO X op k)(HU:DO X Ca k')(ha:PX X a fa)(hb:PX X b fb)(E6:PX X c fc)(hm:lastMarks [op,Ca] [b,c]=false:=by with_unfolding_all rfl) : PX X (.Compare a [op,Ca] [b,c] pos) (EI k k' fa fb fc):=by
 obtain⟨r,ho,hk⟩:=hc.ex;obtain⟨r',CY,CC⟩:=HU.ex;exact PE.imp (qH ho CY ha hb E6 hm) λ_ _ _ h=>c5 hk CC h
theorem bL{op Ca:CmpOp}{k k':RV->RV->Option RV}(hc:DO X op k)(HU:DO X Ca k')(ha:PX X a fa)(hb:PX X b fb)(E6:PX X c fc)(hm:lastMarks [op,Ca] [b,c]=false:=by with_unfolding_all rfl) : Eh X (.Compare a [op,Ca] [b,c] pos) (AS (EI k k' fa fb fc)):=by
 obtain⟨r,ho,hk⟩:=hc.ex;obtain⟨r',CY,CC⟩:=HU.ex;exact PT.imp (q9 ho CY ha hb E6 hm) λ_ _ _ h=>c5 hk CC (Q9 h)
def Cd(t u:BF):BF:=λρ=>match t ρ with|some true=>u ρ|some false=>some false|none=>none
def CU(t u:BF):BF:=λρ=>match t ρ with|some true=>some true|some false=>u ρ|none=>none
def CA(t:BF):BF:=λρ=>(t ρ).map (!·)
variable{ta tb tc:BF}{Bh:List Expr}
theorem uP{K:W.Frag}{σ:St}{H:Hp}{Q:Bool->Hp->Prop}(h:Fl K (Cd ta tb) σ H Q):cZ (Fl K ta) (Fl K tb) σ H Q:=by
 obtain⟨G,ρ,r,R,e,q⟩:=h;unfold Cd at e;split at e
 ·rename_i ea;refine⟨G,ρ,true,R,ea,λG1 H1 s1=>?_⟩;refine HZ ?_;exact⟨G1,ρ,r,R.step s1,e,λG2 H2 s2=>q G2 H2 (s1.trans s2)⟩
 ·rename_i ea;cases e;refine⟨G,ρ,false,R,ea,λG1 H1 s1=>?_⟩;refine HY ?_;exact q G1 H1 s1
 ·cases e
theorem uQ{K:W.Frag}{σ:St}{H:Hp}{Q:Bool->Hp->Prop}(h:Fl K (CU ta tb) σ H Q):cw (Fl K ta) (Fl K tb) σ H Q:=by
 obtain⟨G,ρ,r,R,e,q⟩:=h;unfold CU at e;split at e
 ·rename_i ea;cases e;refine⟨G,ρ,true,R,ea,λG1 H1 s1=>?_⟩;refine HZ ?_;exact q G1 H1 s1
 ·rename_i ea;refine⟨G,ρ,false,R,ea,λG1 H1 s1=>?_⟩;refine HY ?_;exact⟨G1,ρ,r,R.step s1,e,λG2 H2 s2=>q G2 H2 (s1.trans s2)⟩
 ·cases e
theorem JV(ha:Eh X a ta):IZ X (.BoolOp .And [a] pos) ta:=rL ha
theorem JW(ha:Eh X a ta):IZ X (.BoolOp .Or [a] pos) ta:=rN ha
theorem JU(ha:Eh X a ta)(hb:IZ X (.BoolOp .And (b::Bh) pos) tb):IZ X (.BoolOp .And (a::b::Bh) pos) (Cd ta tb):=PW.imp (rK ha hb) λ_ _ _ h=>uP h
theorem GH(ha:Eh X a ta)(hb:IZ X (.BoolOp .Or (b::Bh) pos) tb):IZ X (.BoolOp .Or (a::b::Bh) pos) (CU ta tb):=PW.imp (rM ha hb) λ_ _ _ h=>uQ h
theorem Ee(h:IZ X e ta):Eh X e ta:=h.pt
theorem Et(ha:Eh X a ta):Eh X (.UnaryOp .Not a pos) (CA ta):=PT.imp (rC ha) λσ H Q ⟨G,ρ,r,R,e,q⟩=>by
 unfold CA at e;cases ea:ta ρ with
 |none=>rw[ea]at e;cases e
 |some k=>
  rw[ea]at e;cases e;exact⟨G,ρ,k,R,ea,λG1 H1 s1=>q G1 H1 s1⟩
theorem Cq(ha:PX X a fa)(he:∀Ji,isTrue a X.env Ji=(do let v<-Ji;standAt a.pos;holding [v] (truthy v)):=by intro _;rfl):Eh X a (AS fa):=
 PT.imp (rD ha he) λ_ _ _ h=>Q9 h
def De(f g:EF):EF:=λρ=>match f ρ with|some (.cl (.bl true))=>g ρ|some (.cl (.bl false))=>some (.cl (.bl false))|_=>none
def Ek(f g:EF):EF:=λρ=>match f ρ with|some (.cl (.bl false))=>g ρ|some (.cl (.bl true))=>some (.cl (.bl true))|_=>none
def Iv(f:EF):EF:=λρ=>match f ρ with|some (.cl (.bl b))=>some (.cl (.bl (!b)))|_=>none
theorem Eb{op}(h:PX X a fa):PX X (.BoolOp op [a] pos) fa:=qP h
theorem Gz(ha:PX X a fa)(hb:PX X (.BoolOp .And (b::Bh) pos) fb):PX X (.BoolOp .And (a::b::Bh) pos) (De fa fb):=PE.imp (qF ha hb) λσ H Q ⟨G,ρ,r,R,e,q⟩=>by
 unfold De at e;split at e
 ·rename_i ea;refine⟨G,ρ,_,R,ea,λv G1 H1 s1 rv=>⟨true,rv.bl,?_⟩⟩;refine HZ ?_;exact⟨G1,ρ,r,R.step s1,e,λv2 G2 H2 s2 r2=>q v2 G2 H2 (s1.trans s2) (r2.back s1.hh)⟩
 ·rename_i ea;cases e;refine⟨G,ρ,_,R,ea,λv G1 H1 s1 rv=>⟨false,rv.bl,?_⟩⟩;refine HY ?_;exact q _ G1 H1 s1 (by show Rep _ _ _ _;unfold Rep;rfl)
 ·cases e
theorem Ki(ha:PX X a fa)(hb:PX X (.BoolOp .Or (b::Bh) pos) fb):PX X (.BoolOp .Or (a::b::Bh) pos) (Ek fa fb):=PE.imp (qR ha hb) λσ H Q ⟨G,ρ,r,R,e,q⟩=>by
 unfold Ek at e;split at e
 ·rename_i ea;refine⟨G,ρ,_,R,ea,λv G1 H1 s1 rv=>⟨false,rv.bl,?_⟩⟩;refine HY ?_;exact⟨G1,ρ,r,R.step s1,e,λv2 G2 H2 s2 r2=>q v2 G2 H2 (s1.trans s2) (r2.back s1.hh)⟩
 ·rename_i ea;cases e;refine⟨G,ρ,_,R,ea,λv G1 H1 s1 rv=>⟨true,rv.bl,?_⟩⟩;refine HZ ?_;exact q _ G1 H1 s1 (by show Rep _ _ _ _;unfold Rep;rfl)
 ·cases e
theorem bH(ha:PX X a fa):PX X (.UnaryOp .Not a pos) (Iv fa):=PE.imp (qO ha) λσ H Q ⟨G,ρ,r,R,e,q⟩=>by
 unfold Iv at e;split at e
 ·rename_i b ea;cases e;exact⟨G,ρ,_,R,ea,λv G1 H1 s1 rv=>⟨b,rv.bl,q _ G1 H1 s1 (by show Rep _ _ _ _;unfold Rep;rfl)⟩⟩
 ·cases e
def Iu(t:BF)(f g:EF):EF:=λρ=>match t ρ with|some true=>f ρ|some false=>g ρ|none=>none
theorem bE(hc:Eh X c tc)(ha:PX X a fa)(hb:PX X b fb):PX X (.IfExp c a b pos) (Iu tc fa fb):=PE.imp (qL hc ha hb) λσ H Q ⟨G,ρ,r,R,e,q⟩=>by
 unfold Iu at e;split at e
 ·rename_i ec;refine⟨G,ρ,true,R,ec,λG1 H1 s1=>?_⟩;refine HZ ?_;exact⟨G1,ρ,r,R.step s1,e,λv2 G2 H2 s2 r2=>q v2 G2 H2 (s1.trans s2) (r2.back s1.hh)⟩
 ·rename_i ec;refine⟨G,ρ,false,R,ec,λG1 H1 s1=>?_⟩;refine HY ?_;exact⟨G1,ρ,r,R.step s1,e,λv2 G2 H2 s2 r2=>q v2 G2 H2 (s1.trans s2) (r2.back s1.hh)⟩
 ·cases e
def AI:AF:=λ_=>some []
def AD(f:EF)(g:AF):AF:=λρ=>match f ρ,g ρ with|some x,some xs=>some (x::xs)|_,_=>none
variable{g:AF}
theorem IM:Dr X [] AI:=PA.imp Nw λσ H Q ⟨G,ρ,r,R,e,q⟩=>by
 cases e;exact q [] G H (A9.refl R.sub) .nil
theorem Dh.step{K:W.Frag}{H G1 H1 G2 H2:Hp}(s:A9 G1 H1 G2 H2):∀{rs:List RV}{vs:List V},Dh K H G1 H1 rs vs->Dh K H G2 H2 rs vs
 |_,_,.nil=>.nil
 |_,_,.cons r t=>.cons (r.step s) (Dh.step s t)
theorem Dh.back{K:W.Frag}{H0 H G' H':Hp}(s:A4 H0 H):∀{rs:List RV}{vs:List V},Dh K H G' H' rs vs->Dh K H0 G' H' rs vs
 |_,_,.nil=>.nil
 |_,_,.cons r t=>.cons (r.back s) (Dh.back s t)
theorem DL(ha:PX X e f)(hr:Dr X es g)(hs:starEach (e::es) X.env=(false,eval e X.env)::starEach es X.env:=by rfl):Dr X (e::es) (AD f g):=PA.imp (Ke ha hr hs) λσ H Q ⟨G,ρ,r,R,e,q⟩=>by
 unfold AD at e;split at e
 ·rename_i x xs ea eb;cases e;refine⟨G,ρ,x,R,ea,λv G1 H1 s1 rv=>⟨G1,ρ,xs,R.step s1,eb,λvs G2 H2 s2 rs=>?_⟩⟩;exact q (v::vs) G2 H2 (s1.trans s2) (.cons (rv.step s2) (Dh.back s1.hh rs))
 ·cases e
def DW:List RV->Option (List PV)
 |[]=>some []
 |r::rs=>match r.clean,DW rs with|some p,some ps=>some (p::ps)|_,_=>none
theorem Jx{K:W.Frag}{H G' H':Hp}(sub:A4 G' H'):∀{rs:List RV}{vs:List V}{ps:List PV},Dh K H G' H' rs vs->DW rs=some ps->AX K (FQ G' H H') ps vs
 |_,_,_,.nil,e=>by cases e;unfold AX;rfl
 |_,_,_,.cons r t,e=>by
  unfold DW at e;split at e
  ·rename_i p ps e1 e2;cases e;unfold AX;exact⟨_,_,rfl,r.clean sub e1,Jx sub t e2⟩
  ·cases e
def A7(g:AF):EF:=λρ=>match g ρ with|some rs=>(match DW rs with|some ps=>if ps.length<=1000 then some (.cl (.tup ps))else none|none=>none)|none=>none
def B9(g:AF):EF:=λρ=>match g ρ with|some rs=>(match DW rs with|some ps=>if ps.length<=1000 then some (.fr ps)else none|none=>none)|none=>none
theorem CD{x1}(h:Dr X es g):PX X (.Tuple es x1 pos) (A7 g):=PE.imp (qV h) λσ H Q ⟨G,ρ,r,R,e,q⟩=>by
 unfold A7 at e;split at e
 ·rename_i rs eg;split at e
  ·rename_i ps ep;split at e
   ·rename_i hz;cases e;refine⟨G,ρ,rs,R,eg,λvs G1 H1 s1 rv=>?_⟩;have rl:=Jx s1.sub rv ep;have hl:=rl.len;refine⟨small (by omega),λp hp=>?_⟩;have s2:=s1.all;have s3:=A9.new s2.sub (.tup vs) hp;refine q (.ref p) _ _ (s2.trans s3) ?_;show Rep _ _ _ _;unfold Rep;exact⟨p,vs,rfl,.inl (.inl Fm),AX.same s3.gg rl⟩
   ·cases e
  ·cases e
 ·cases e
theorem EL(h:Dr X es g):PX X (.List es pos) (B9 g):=PE.imp (qN h) λσ H Q ⟨G,ρ,r,R,e,q⟩=>by
 unfold B9 at e;split at e
 ·rename_i rs eg;split at e
  ·rename_i ps ep;split at e
   ·rename_i hz;cases e;refine⟨G,ρ,rs,R,eg,λvs G1 H1 s1 rv=>?_⟩;have rl:=Jx s1.sub rv ep;have hl:=rl.len;refine⟨small (by omega),λp hp=>?_⟩;have s2:=s1.all;refine q (.ref p) _ _ (s2.trans (A9.JR s2.sub (.lst vs) hp)) ?_;exact⟨p,vs,rfl,s1.hh.free hp,s2.sub.free hp,Fm,rl⟩
   ·cases e
  ·cases e
 ·cases e
end
section
variable{X:Cx}{a b c e:Expr}{es:List Expr}{fa fb fc f:EF}{g:AF}{pos:Pos}
def bW(K:W.Frag):R2:=λx y H Q=>bS K x y H Q\/bX K x y H Q
theorem mQ:IY X (bW X.K):=mR.or mS
def RV.seq:RV->Option (List PV)
 |.cl (.tup ps)=>some ps
 |.cl (.rd ps)=>some ps
 |r=>r.list
def AM(x y:RV):Option RV:=match x.seq,y with
 |some ps,.cl (.int i)=>(DD ps i).map .cl
 |_,_=>none
theorem AX.DD{K:W.Frag}{H:Hp}{ps:List PV}{vs:List V}{i:Int}{p:PV}(h:AX K H ps vs)(e:DD ps i=some p):∃v,DD vs i=some v/\Rep K H p v:=by
 unfold L2.DD at e ⊢;rw[<-h.len];cases ei:Ha ps.length i with
 |none=>rw[ei]at e;cases e
 |some j=>
  rw[ei]at e;exact Nv h.paired e
theorem Cm.seq{K:W.Frag}{H G' H':Hp}{r:RV}{v:V}{ps:List PV}(sub:A4 G' H')(h:Cm K H G' H' r v)(e:r.seq=some ps):∃a vs,v=.ref a/\(DH K H' a vs\/DV K H' a vs)/\AX K G' ps vs:=by
 by_cases ht:∃qs,r=.cl (.tup qs)
 ·obtain⟨qs,rfl⟩:=ht;simp only[RV.seq,Option.some.injEq]at e;subst e;have h':Rep K G' (.tup qs) v:=h;unfold Rep at h';obtain⟨a,vs,e,q,r⟩:=h';exact⟨a,vs,e,.inr (DV.same sub q),r⟩
 by_cases hd:∃qs,r=.cl (.rd qs)
 ·obtain⟨qs,rfl⟩:=hd;simp only[RV.seq,Option.some.injEq]at e;subst e;have h':Rep K G' (.rd qs) v:=h;unfold Rep at h';obtain⟨a,vs,e,q,r⟩:=h';exact⟨a,vs,e,.inl (A4.seq sub q),r⟩
 ·have e':r.list=some ps:=by
   cases r with
   |cl p=>cases p<;>first|exact e|exact absurd ⟨_,rfl⟩ ht|exact absurd ⟨_,rfl⟩ hd
   |bo ps=>exact e
   |fr ps=>exact e
   |bd _ _=>exact e
   |fd _ _=>exact e
  obtain⟨a,vs,e,q,r⟩:=h.list sub e';exact⟨a,vs,e,.inl (.inl q),r⟩
theorem pP{K:W.Frag}:Dq K AM (bW K):=by
 intro x y z H0 G H vx vy Q sub sh e rx ry q;unfold AM at e;split at e
 ·rename_i ps i ex;cases ei:DD ps i with
  |none=>rw[ei]at e;cases e
  |some p=>
   rw[ei]at e;cases e;obtain⟨a,vs,rfl,hq,rl⟩:=rx.seq sub ex;obtain⟨v,ev,rv⟩:=rl.DD ei;have Pf:=q v G H (A9.refl sub) rv;rcases hq with hq|hq
   ·exact .inl ⟨a,vs,i,v,rfl,ry.int,hq,ev,Pf⟩
   ·exact .inr ⟨a,vs,i,v,rfl,ry.int,hq,ev,Pf⟩
 ·cases e
theorem AV(ha:PX X a fa)(hb:PX X b fb)(hs:WJ b:=by exact λ_ _=>rfl):PX X (.Subscript a b pos) (f2 AM fa fb):=PE.imp (qM mQ ha hb hs) λ_ _ _ h=>Q7 pP h
abbrev OF:=AZ->Option (Option Int)
def Dv:OF:=λ_=>some none
def Dj(f:EF):OF:=λρ=>match f ρ with|some (.cl (.int i))=>some (some i)|_=>none
def uO(K:W.Frag)(f:OF):TO:=λσ H Q=>∃G ρ r,CW K G H ρ σ/\f ρ=some r/\∀G' H',A9 G H G' H'->Q r H'
def Mb(X:Cx)(e:Option Expr)(f:OF):Prop:=PO X e (uO X.K f)
theorem PO.imp{X:Cx}{e:Option Expr}{t t':TO}(h:PO X e t)(i:∀σ H Q,t' σ H Q->t σ H Q):PO X e t':=λAH s σ H Q I q=>h AH s σ H Q I (i σ H Q q)
theorem N3:Mb X none Dv:=PO.imp qm λσ H Q ⟨G,ρ,r,R,e,q⟩=>by
 cases e;exact q G H (A9.refl R.sub)
theorem N4(h:PX X e f):Mb X (some e) (Dj f):=PO.imp (qo h) λσ H Q ⟨G,ρ,r,R,e,q⟩=>by
 unfold Dj at e;split at e
 ·rename_i i ei;cases e;exact⟨G,ρ,_,R,ei,λv G' H' s rv=>⟨i,rv.int,q G' H' s⟩⟩
 ·cases e
def Im(xs:List PV)(lo hi:Option Int):List PV:=(xs.drop (HT.Dm xs.length 0 lo)).take (HT.Dm xs.length xs.length hi-HT.Dm xs.length 0 lo)
def Dk(f:EF)(l u:OF):EF:=λρ=>match f ρ,l ρ,u ρ with
 |some x,some lo,some hi=>(match x.list with|some ps=>some (.fr (Im ps lo hi))|none=>none)
 |_,_,_=>none
theorem N1{lo hi:Option Expr}{l u:OF}{p2:Pos}(he:PX X e f)(hl:Mb X lo l)(hu:Mb X hi u):PX X (.Subscript e (.Slice lo hi none p2) pos) (Dk f l u):=PE.imp (qT tK he hl hu) λσ H Q ⟨G,ρ,r,R,e,q⟩=>by
 unfold Dk at e;split at e
 ·rename_i x nQ C4 ex el eu;split at e
  ·rename_i ps ep;cases e;refine⟨G,ρ,x,R,ex,λv G1 H1 s1 rv=>⟨G1,ρ,nQ,R.step s1,el,λG2 H2 s2=>⟨G2,ρ,C4,(R.step s1).step s2,eu,λG3 H3 s3=>?_⟩⟩⟩;obtain⟨a,vs,rfl,hq,rl⟩:=(rv.step (s2.trans s3)).list s3.sub ep;refine⟨a,vs,rfl,.inl hq,λp hp=>?_⟩;refine q (.ref p) _ _ (((s1.trans s2).trans s3).trans (A9.JR s3.sub _ hp)) ?_;refine⟨p,_,rfl,((s1.trans s2).trans s3).hh.free hp,s3.sub.free hp,Fm,?_⟩;unfold Im Mo;rw[rl.len];exact AX.of (aO _ (aN _ rl.paired))
  ·cases e
 ·cases e
def uI(te:TE):TE:=λσ H Q=>te σ H λx H1=>∃a xs,x=.ref a/\Rd H1 a (.lst xs)/\∀p,H1 p=none->Q (.ref p) (upd H1 p (.lst xs.reverse))
theorem qS{te:TE}{j p1 p2 p3}(he:PE X e te):PE X (.Subscript e (.Slice none none (some (.UnaryOp .USub (.Constant (.int 1) j p1) p2)) p3) pos) (uI te):=by
 intro AH s σ H Q I h;refine Subscript_ (Au (he AH s σ H _ I h) λv s1 ⟨x,H1,I1,r1,q1⟩=>?_);refine wpAny_Slice ?_;rw[evalPart_none];refine wpAny_pure ?_;refine wpAny_pure ?_;rw[evalPart_some];refine Au (ag dE (af (X:=X) (i:=1) (j:=j) (pos:=p1)) (pos:=p2) AH s1 σ H1 (λv H2=>v=.int (-1)/\H2=H1) I1 ⟨1,rfl,rfl,rfl⟩) λst s3 ⟨y,H3,I3,r3,q3⟩=>?_;obtain⟨rfl,rfl⟩:=q3;obtain⟨t,rfl⟩:=r3;obtain⟨a,xs,rfl,hq,q⟩:=q1;cases r1;have I4:Inv X AH σ H3 { s3 with heap:=s3.heap.push { cls:=.type "slice",data:=.fields #[.none,.none,.int (-1) t] } }:=I3.kept (t':=s3.toks) λb ob q=>Heap.get?_push_of_some _ q;obtain⟨z,its,n,r,e⟩:=hq.ok I4.A2;have hl:=r.length;have Yq:Heap.IsList (s3.heap.push { cls:=.type "slice",data:=.fields #[.none,.none,.int (-1) t] }) a its.toArray:=⟨_,e,rfl,n,rfl⟩;show wpAny (model X.prog X.w) X.A (subscriptTail _ (.Slice none none (some (.UnaryOp .USub (.Constant (.int 1) j p1) p2)) p3) (.ref a) (.ref s3.heap.objs.size)) (EP X AH σ Q) X.xe { s3 with heap:=s3.heap.push { cls:=.type "slice",data:=.fields #[.none,.none,.int (-1) t] } };refine tail_any (ops:=[.ref a,.ref s3.heap.objs.size]) Yq.typeIs slot_list_getitem.lookup ?_ (by with_unfolding_all rfl);refine wpAny_getItem_list_slice (lo:=none) (hi:=none) (st:=some (-1)) Yq (Heap.IsSliceOf.new ..) .none .none (.int _ _) (by simp) ?_ (by rw[List.size_toArray]<;>omega);rw[W.krv_pick];refine⟨.ref _,_,I4.laid (t':=s3.toks) (o:=.lst xs.reverse) (λb ob q=>Heap.get?_push_of_some _ q) (Nat.le_refl _) ?_,rfl,q _ (I4.A2.fresh (Nat.le_refl _))⟩;exact⟨by rw[List.length_reverse];exact z,_,0,r.reverse,Heap.get?_push_size _ rfl⟩
def HN(f:EF):EF:=λρ=>match f ρ with|some x=>(match x.list with|some ps=>some (.fr ps.reverse)|none=>none)|none=>none
theorem QW{j p1 p2 p3}(he:PX X e f):PX X (.Subscript e (.Slice none none (some (.UnaryOp .USub (.Constant (.int 1) j p1) p2)) p3) pos) (HN f):=PE.imp (qS he) λσ H Q ⟨G,ρ,r,R,e,q⟩=>by
 unfold HN at e;split at e
 ·rename_i x ex;split at e
  ·rename_i ps ep;cases e;refine⟨G,ρ,x,R,ex,λv G1 H1 s1 rv=>?_⟩;obtain⟨a,vs,rfl,hq,rl⟩:=rv.list s1.sub ep;refine⟨a,vs,rfl,hq,λp hp=>?_⟩;exact q (.ref p) _ _ (s1.trans (A9.JR s1.sub _ hp)) ⟨p,_,rfl,s1.hh.free hp,s1.sub.free hp,Fm,AX.of (qE rl.paired)⟩
  ·cases e
 ·cases e
def MD(K:W.Frag)(n:Nat)(F:List PV->Option RV):Sp:=λvs H Q _=>vs.length=n/\∃G ps r,A4 G H/\AX K G ps vs/\F ps=some r/\∀v G' H',A9 G H G' H'->Cm K H G' H' r v->Q v H'
def AU(F:List PV->Option RV)(g:AF):EF:=λρ=>match g ρ with|some rs=>(match DW rs with|some ps=>F ps|none=>none)|none=>none
structure Fn(X:Cx)(x:Str)(n:Nat)(F:List PV->Option RV):Prop where
 ex:∃k f fd ps,Dp X.prog X.w X.K X.mg X.base Ez k f fd ps (MD X.K n F)/\DG k X.A/\X.mg x=some (.ref f)/\W.keepIn X.K (.ref f)=true/\Binds X.K fd ps []/\ps.length=n
theorem A0{x:Str}{n:Nat}{F:List PV->Option RV}{p:Pos}(hF:Fn X x n F)(ha:Dr X (e::es) g)(hn:(e::es).length=n:=by rfl)(hg:Gl X x:=by rfl)(FW:(x==("__debug__" : Str))=false:=by decide)(he:starEach (e::es) X.env=(false,eval e X.env)::starEach es X.env:=by rfl)(B7:(backTo pos (starEach es X.env)).any (·.1)=false:=by rfl) (Ar:∀ρ rs,g ρ=some rs->rs.length=n):PX X (.Call (.Name x p) (e::es) [] pos) (AU F g):=by
 obtain⟨k,f,fd,ps,G,hr,hm,hk,hb,lV⟩:=hF.ex;refine PE.imp (aa G hr hg hm hk hb .nil aW ha FW he B7) λσ H Q ⟨G,ρ,r,R,e,q⟩=>?_;unfold AU at e;split at e
 ·rename_i rs eg;split at e
  ·rename_i qs eq;refine⟨G,ρ,rs,R,eg,λvs G1 H1 s1 rv=>⟨?_,FQ G1 H H1,qs,r,s1.all.sub,?_,e,λv G' H' s Km=>q v G' H' (s1.all.trans s) (Km.back s1.hh)⟩⟩
   ·rw[List.append_nil,<-Ar ρ rs eg];exact(Paired.length rv).symm
   ·rw[List.append_nil];exact Jx s1.sub rv eq
  ·cases e
 ·cases e
mutual
def PV.flat:PV->Bool
 |.tup xs=>PV.LY xs
 |.lst _=>false
 |.rd _=>false
 |.Fz _ _=>false
 |_=>true
def PV.LY:List PV->Bool
 |[]=>true
 |x::xs=>x.flat&&PV.LY xs
end
def RV.flat:RV->Bool
 |.cl p=>p.flat
 |.fr ps=>PV.LY ps
 |.fd _ xs=>PV.LY xs
 |.bo _=>false
 |.bd _ _=>false
def RV.any:RV->PV
 |.cl p=>p
 |.bo ps=>.lst ps
 |.fr ps=>.lst ps
 |.bd ks xs=>.Fz ks xs
 |.fd ks xs=>.Fz ks xs
theorem Cm.any{K:W.Frag}{H G' H':Hp}{r:RV}{v:V}(sub:A4 G' H')(h:Cm K H G' H' r v):Rep K H' r.any v:=by
 cases r with
 |cl p=>exact Rep.same sub h
 |bo ps=>
  obtain⟨a,vs,e,g,q,r⟩:=h;unfold RV.any Rep;exact⟨a,vs,e,.inl q,AX.same sub r⟩
 |fr ps=>
  obtain⟨a,vs,e,n,g,q,r⟩:=h;unfold RV.any Rep;exact⟨a,vs,e,.inl q,AX.same sub r⟩
 |bd ks xs=>
  obtain⟨a,vs,e,g,q,k,r⟩:=h;unfold RV.any Rep;exact⟨a,vs,e,.inl q,k,AX.same sub r⟩
 |fd ks xs=>
  obtain⟨a,vs,e,n,g,q,k,r⟩:=h;unfold RV.any Rep;exact⟨a,vs,e,.inl q,k,AX.same sub r⟩
theorem Dh.any{K:W.Frag}{H G' H':Hp}(sub:A4 G' H'):∀{rs:List RV}{vs:List V},Dh K H G' H' rs vs->AX K H' (rs.map RV.any) vs
 |_,_,.nil=>by unfold List.map AX;rfl
 |_,_,.cons r t=>by
  rw[List.map_cons];unfold AX;exact⟨_,_,rfl,r.any sub,Dh.any sub t⟩
def HS(G1 H1 G':Hp):Hp:=λa=>match G1 a with|some o=>some o|none=>match H1 a with|some (.lst _)=>none|some (.dT _)=>none|some o=>some o|none=>G' a
theorem jv{G1 H1 G' H':Hp}(sub:A4 G1 H1)(hh:A4 H1 H')(s':A4 G' H'):A9 G1 H1 (HS G1 H1 G') H':=by
 refine⟨λa o h=>by unfold HS;rw[h],hh,λa o h=>?_,λa h n=>by unfold HS;rcases h with h|h<;>rw[n,h]⟩;unfold HS at h;split at h
 ·rename_i o' e;cases h;exact hh _ _ (sub _ _ e)
 ·split at h
  ·cases h
  ·cases h
  ·rename_i e;cases h;exact hh _ _ e
  ·exact s' _ _ h
theorem YV{G1 H1 G' H':Hp}{a:Addr}{o:HO}(sub:A4 G1 H1)(hh:A4 H1 H')(s':A4 G' H')(h:G' a=some o)(hn:∀xs,o≠.lst xs)(hd:∀Bi,o≠.dT Bi):HS G1 H1 G' a=some o:=by
 have h':=s' _ _ h;unfold HS;split
 ·rename_i o' e;have:=hh _ _ (sub _ _ e);rw[h']at this;exact this.symm
 ·split
  ·rename_i xs e;have:=hh _ _ e;rw[h']at this;exact absurd (Option.some.inj this) (hn _)
  ·rename_i xs e;have:=hh _ _ e;rw[h']at this;exact absurd (Option.some.inj this) (hd _)
  ·rename_i o' _ _ e;have:=hh _ _ e;rw[h']at this;exact this.symm
  ·exact h
mutual
theorem Rep.flat{K:W.Frag}{G1 H1 G' H':Hp}(sub:A4 G1 H1)(hh:A4 H1 H')(s':A4 G' H'):∀{p:PV}{v:V},p.flat=true->Rep K G' p v->Rep K (HS G1 H1 G') p v
 |.Bq,_,_,h=>h
 |.bl _,_,_,h=>h
 |.int _,_,_,h=>h
 |.str _,_,_,h=>h
 |.tup xs,v,f,h=>by
  unfold Rep at h ⊢;unfold PV.flat at f;obtain⟨a,vs,e,q,r⟩:=h;refine⟨a,vs,e,?_,AX.flat sub hh s' f r⟩;rcases q with(q|⟨o,q⟩)|q
  ·exact .inl (.inl (YV sub hh s' q (λ_ z=>nomatch z) λ_ z=>nomatch z))
  ·exact .inl (.inr ⟨o,YV sub hh s' q (λ_ z=>nomatch z) λ_ z=>nomatch z⟩)
  ·exact .inr q
 |.lst _,_,f,_=>by unfold PV.flat at f;cases f
 |.rd _,_,f,_=>by unfold PV.flat at f;cases f
 |.Fz _ _,_,f,_=>by unfold PV.flat at f;cases f
theorem AX.flat{K:W.Frag}{G1 H1 G' H':Hp}(sub:A4 G1 H1)(hh:A4 H1 H')(s':A4 G' H'):∀{ps:List PV}{vs:List V},PV.LY ps=true->AX K G' ps vs->AX K (HS G1 H1 G') ps vs
 |[],_,_,h=>h
 |p::ps,_,f,h=>by
  unfold AX at h ⊢;unfold PV.LY at f;rw[Bool.and_eq_true]at f;obtain⟨v,r,e,q,t⟩:=h;exact⟨v,r,e,Rep.flat sub hh s' f.1 q,AX.flat sub hh s' f.2 t⟩
end
def FP(F:List PV->Option RV)(g:AF):EF:=λρ=>match g ρ with|some rs=>F (rs.map RV.any)|none=>none
theorem Ub{x:Str}{n:Nat}{F:List PV->Option RV}{p:Pos}(hF:Fn X x n F)(TV:∀ps r,F ps=some r->r.flat=true)(ha:Dr X (e::es) g)(hn:(e::es).length=n:=by rfl)(hg:Gl X x:=by rfl)(FW:(x==("__debug__" : Str))=false:=by decide)(he:starEach (e::es) X.env=(false,eval e X.env)::starEach es X.env:=by rfl)(B7:(backTo pos (starEach es X.env)).any (·.1)=false:=by rfl) (Ar:∀ρ rs,g ρ=some rs->rs.length=n):PX X (.Call (.Name x p) (e::es) [] pos) (FP F g):=by
 obtain⟨k,f,fd,ps,G,hr,hm,hk,hb,lV⟩:=hF.ex;refine PE.imp (aa G hr hg hm hk hb .nil aW ha FW he B7) λσ H Q ⟨G,ρ,r,R,e,q⟩=>?_;unfold FP at e;split at e
 ·rename_i rs eg;refine⟨G,ρ,rs,R,eg,λvs G1 H1 s1 rv=>⟨?_,H1,_,r,A4.refl _,?_,e,λv G' H' s Km=>?_⟩⟩
  ·rw[List.append_nil,<-Ar ρ rs eg];exact(Paired.length rv).symm
  ·rw[List.append_nil];exact Dh.any s1.sub rv
  ·have st:=jv (G':=G') s1.sub s.hh s.sub;refine q v _ H' (s1.trans st) ?_;have hf:=TV _ _ e;cases r with
   |cl p=>exact Rep.flat s1.sub s.hh s.sub hf Km
   |bo ps=>cases hf
   |fr ps=>
    obtain⟨a,vs,e,n,g,q,r⟩:=Km;refine⟨a,vs,e,s1.hh.free n,?_,q,AX.flat s1.sub s.hh s.sub hf r⟩;unfold HS;rw[s1.sub.free n,n];exact g
   |bd _ _=>cases hf
   |fd ks xs=>
    obtain⟨a,vs,e,n,g,q,k,r⟩:=Km;refine⟨a,vs,e,s1.hh.free n,?_,q,k,AX.flat s1.sub s.hh s.sub hf r⟩;unfold HS;rw[s1.sub.free n,n];exact g
 ·cases e
theorem jQ(ρ:AZ)(rs:List RV)(h:AI ρ=some rs):rs.length=0:=by cases h;rfl
theorem O7{n:Nat}(h:∀ρ rs,g ρ=some rs->rs.length=n)(ρ:AZ)(rs:List RV)(e:AD f g ρ=some rs):rs.length=n+1:=by
 unfold AD at e;split at e
 ·rename_i x xs _ eb;cases e;rw[List.length_cons,h ρ xs eb]
 ·cases e
def fB(k:List RV->Option RV)(g:AF):EF:=λρ=>match g ρ with|some rs=>k rs|none=>none
def GR(K:W.Frag)(k:List RV->Option RV)(r:List V->Hp->VK->Prop):Prop:=
 ∀(rs:List RV)(z:RV)(H0 G H:Hp)(vs:List V)(Q:VK),A4 G H->A4 H0 H->k rs=some z->Dh K H0 G H rs vs->(∀v G' H',A9 G H G' H'->Cm K H0 G' H' z v->Q v H')->r vs H Q
theorem cy{K:W.Frag}{k:List RV->Option RV}{r:List V->Hp->VK->Prop}(hk:GR K k r){σ:St}{H:Hp}{Q:VK}(h:tX K (fB k g) σ H Q):Ve r (Vk K g) σ H Q:=by
 obtain⟨G,ρ,z,R,e,q⟩:=h;unfold fB at e;split at e
 ·rename_i rs eg;exact⟨G,ρ,rs,R,eg,λvs G1 H1 s1 rv=>hk rs z H G1 H1 vs Q s1.sub s1.hh e rv λv G' H' s rz=>q v G' H' (s1.trans s) rz⟩
 ·cases e
theorem C9{x:Str}{id:String}{k:List RV->Option RV}{r:List V->Hp->VK->Prop}{p:Pos}(hc:EO X (.builtin id) r)(hk:GR X.K k r)(hm:X.mg x=none)(hv:bootBuiltins x=some (.builtin id))(ha:Dr X (e::es) g)(hg:Gl X x:=by rfl)(hn:x≠"__name__":=by decide)(FW:(x==("__debug__" : Str))=false:=by decide) (he:starEach (e::es) X.env=(false,eval e X.env)::starEach es X.env:=by rfl) (B7:(backTo pos (starEach es X.env)).any (·.1)=false:=by rfl):PX X (.Call (.Name x p) (e::es) [] pos) (fB k g):=
 PE.imp (QQ hc hg hm hv ha hn FW he B7) λ_ _ _ h=>cy hk h
theorem bI{x:Str}{T:String}{k:List RV->Option RV}{r:List V->Hp->VK->Prop}{p:Pos}(hc:EO X (.type T) r)(hk:GR X.K k r)(hm:X.mg x=none)(hv:bootBuiltins x=some (.type T))(ha:Dr X (e::es) g)(hg:Gl X x:=by rfl)(hn:x≠"__name__":=by decide)(FW:(x==("__debug__" : Str))=false:=by decide) (he:starEach (e::es) X.env=(false,eval e X.env)::starEach es X.env:=by rfl) (B7:(backTo pos (starEach es X.env)).any (·.1)=false:=by rfl):PX X (.Call (.Name x p) (e::es) [] pos) (fB k g):=
 PE.imp (ab hc hg hm hv ha hn FW he B7) λ_ _ _ h=>cy hk h
theorem Dh.one{K:W.Frag}{H0 G H:Hp}{r:RV}{vs:List V}(h:Dh K H0 G H [r] vs):∃v,vs=[v]/\Cm K H0 G H r v:=by
 cases h with
 |cons r t=>cases t;exact⟨_,rfl,r⟩
theorem Dh.two{K:W.Frag}{H0 G H:Hp}{r r':RV}{vs:List V}(h:Dh K H0 G H [r,r'] vs):∃v v',vs=[v,v']/\Cm K H0 G H r v/\Cm K H0 G H r' v':=by
 cases h with
 |cons r t=>
  cases t with
  |cons r' t=>cases t;exact⟨_,_,rfl,r,r'⟩
def Az:List RV->Option RV
 |[r]=>r.seq.map λps=>.cl (.int ps.length)
 |_=>none
theorem p9:GR X.K Az (λxs H Q=>∃p ys,xs=[.ref p]/\(DH X.K H p ys\/DV X.K H p ys)/\Q (.int ys.length) H):=by
 intro rs z H0 G H vs Q sub sh e rv q;unfold Az at e;split at e
 ·rename_i r;cases es:r.seq with
  |none=>rw[es]at e;cases e
  |some ps=>
   rw[es]at e;cases e;obtain⟨v,rfl,hv⟩:=rv.one;obtain⟨a,us,rfl,hq,rl⟩:=hv.seq sub es;refine⟨a,us,rfl,hq,q _ G H (A9.refl sub) ?_⟩;show Rep _ _ _ _;unfold Rep;rw[rl.len]
 ·cases e
theorem Cc{p:Pos}(hm:X.mg "len" = none)(ha:Dr X (e::es) g)(hg:Gl X "len":=by rfl)(he:starEach (e::es) X.env=(false,eval e X.env)::starEach es X.env:=by rfl)(B7:(backTo pos (starEach es X.env)).any (·.1)=false:=by rfl):PX X (.Call (.Name "len" p) (e::es) [] pos) (fB Az g):=
 C9 gO p9 hm PySem.boot_len ha hg (by decide) (by decide) he B7
def Dw:List RV->Option RV
 |[.cl (.int i)]=>some (.cl (.int (if i<0 then -i else i)))
 |_=>none
def FA:List RV->Option RV
 |[.cl (.int i),.cl (.int j)]=>some (.cl (.int (if j>i then j else i)))
 |_=>none
def JP:List RV->Option RV
 |[.cl (.int i),.cl (.int j)]=>some (.cl (.int (if j<i then j else i)))
 |_=>none
theorem L3:GR X.K Dw (λxs H Q=>∃i,xs=[.int i]/\Q (.int (if i<0 then -i else i)) H):=by
 intro rs z H0 G H vs Q sub sh e rv q;unfold Dw at e;split at e
 ·rename_i i;cases e;obtain⟨v,rfl,hv⟩:=rv.one;exact⟨i,by rw[hv.int],q _ G H (A9.refl sub) (by show Rep _ _ _ _;unfold Rep;rfl)⟩
 ·cases e
theorem L4:GR X.K FA (λxs H Q=>∃i j,xs=[.int i,.int j]/\Q (.int (if j>i then j else i)) H):=by
 intro rs z H0 G H vs Q sub sh e rv q;unfold FA at e;split at e
 ·rename_i i j;cases e;obtain⟨v,v',rfl,hv,T1⟩:=rv.two;exact⟨i,j,by rw[hv.int,T1.int],q _ G H (A9.refl sub) (by show Rep _ _ _ _;unfold Rep;rfl)⟩
 ·cases e
theorem QM:GR X.K JP (λxs H Q=>∃i j,xs=[.int i,.int j]/\Q (.int (if j<i then j else i)) H):=by
 intro rs z H0 G H vs Q sub sh e rv q;unfold JP at e;split at e
 ·rename_i i j;cases e;obtain⟨v,v',rfl,hv,T1⟩:=rv.two;exact⟨i,j,by rw[hv.int,T1.int],q _ G H (A9.refl sub) (by show Rep _ _ _ _;unfold Rep;rfl)⟩
 ·cases e
def Ln:List RV->Option RV
 |[r]=>r.seq.map .fr
 |_=>none
theorem aL:GR X.K Ln (λxs H Q=>∃p ys,xs=[.ref p]/\(DH X.K H p ys\/DV X.K H p ys)/\∀l,H l=none->Q (.ref l) (upd H l (.lst ys))):=by
 intro rs z H0 G H vs Q sub sh e rv q;unfold Ln at e;split at e
 ·rename_i r;cases es:r.seq with
  |none=>rw[es]at e;cases e
  |some ps=>
   rw[es]at e;cases e;obtain⟨v,rfl,hv⟩:=rv.one;obtain⟨a,us,rfl,hq,rl⟩:=hv.seq sub es;exact⟨a,us,rfl,hq,λl hl=>q _ _ _ (A9.JR sub _ hl) ⟨l,us,rfl,sh.free hl,sub.free hl,Fm,rl⟩⟩
 ·cases e
def E8:List PV->Option (List Int)
 |[]=>some []
 |.int i::r=>(E8 r).map (i :: ·)
 |_=>none
def HI:List PV->Option (List Bool)
 |[]=>some []
 |.bl i::r=>(HI r).map (i :: ·)
 |_=>none
theorem NZ{K:W.Frag}{G:Hp}:∀{ps:List PV}{vs:List V}{ns:List Int},E8 ps=some ns->AX K G ps vs->vs=ns.map V.int
 |[],vs,ns,e,h=>by cases e;unfold AX at h;exact h
 |.int i::r,vs,ns,e,h=>by
  unfold E8 at e;cases er:E8 r with
  |none=>rw[er]at e;cases e
  |some ms=>
   rw[er]at e;cases e;unfold AX at h;obtain⟨v,us,rfl,hv,t⟩:=h;unfold Rep at hv;subst hv;rw[NZ er t,List.map_cons]
 |.Bq::_,_,_,e,_=>by cases e
 |.bl _::_,_,_,e,_=>by cases e
 |.str _::_,_,_,e,_=>by cases e
 |.tup _::_,_,_,e,_=>by cases e
 |.lst _::_,_,_,e,_=>by cases e
 |.rd _::_,_,_,e,_=>by cases e
 |.Fz _ _::_,_,_,e,_=>by cases e
theorem R3{K:W.Frag}{G:Hp}:∀{ps:List PV}{vs:List V}{ns:List Bool},HI ps=some ns->AX K G ps vs->vs=ns.map V.bl
 |[],vs,ns,e,h=>by cases e;unfold AX at h;exact h
 |.bl i::r,vs,ns,e,h=>by
  unfold HI at e;cases er:HI r with
  |none=>rw[er]at e;cases e
  |some ms=>
   rw[er]at e;cases e;unfold AX at h;obtain⟨v,us,rfl,hv,t⟩:=h;unfold Rep at hv;subst hv;rw[R3 er t,List.map_cons]
 |.Bq::_,_,_,e,_=>by cases e
 |.int _::_,_,_,e,_=>by cases e
 |.str _::_,_,_,e,_=>by cases e
 |.tup _::_,_,_,e,_=>by cases e
 |.lst _::_,_,_,e,_=>by cases e
 |.rd _::_,_,_,e,_=>by cases e
 |.Fz _ _::_,_,_,e,_=>by cases e
theorem R0:∀{bs:List Bool}{us:List Value},BA (bs.map V.bl) us->LSm.BoolsAre us bs
 |[],us,r=>by rw[List.map_nil]at r;cases r;exact .nil
 |b::bs,us,r=>by
  rw[List.map_cons]at r;cases r with
  |cons r1 r2=>cases r1;exact .cons b (R0 r2)
theorem gR(hc:X.calm=true):EO X (.builtin "sum") (λxs H Q=>∃(p:Addr)(ns:List Int),xs=[.ref p]/\Rd H p (.lst (ns.map V.int))/\Q (.int ns.sum) H):=by
 intro AH s σ H xs us Q I r h;obtain⟨p,ns,rfl,hq,q⟩:=h;obtain⟨u,rfl,rx⟩:=vals1 r;cases rx;obtain⟨z,its,n,rv,e⟩:=hq.ok I.A2;have hi:IntsAre its ns:=intsAre_of rv;obtain⟨xs,hx⟩:=hi.allInts.items;have hl:s.heap.IsList p its.toArray:=⟨_,e,rfl,n,rfl⟩;have NL:s.heap.IsList p (intItems xs):=hx ▸ hl;refine sum_intListG (I.ok.hd hc) NL λh' tk t' hk=>?_;have e1:ns=xs.toList.map (·.1):=by
  rw[<-nums_intItems,<-hx];exact(show numsOf its.toArray.toList=ns from hi.numsOf).symm
 have e2:preSum (numAt xs) xs.size=ns.sum:=by
  rw[preSum_eq,List.take_of_length_le (by simp),e1]
 rw[e2];exact⟨.int ns.sum,H,I.kept hk,⟨_,rfl⟩,q⟩
theorem Mj(hc:X.calm=true):EO X (.builtin "all") (λxs H Q=>∃(p:Addr)(bs:List Bool),xs=[.ref p]/\Rd H p (.lst (bs.map V.bl))/\Q (.bl (bs.all id)) H):=by
 intro AH s σ H xs us Q I r h;obtain⟨p,bs,rfl,hq,q⟩:=h;obtain⟨u,rfl,rx⟩:=vals1 r;cases rx;obtain⟨z,its,n,rv,e⟩:=hq.ok I.A2;have hb:=R0 rv;have hl:s.heap.IsList p its.toArray:=⟨_,e,rfl,n,rfl⟩;have B4:p<s.heap.objs.size:=Heap.lt_size e;refine call_all_walk (wpAny_pyIter_list hl ?_);refine⟨s.heap.objs.size,[s.heap.objs.size,p],[s.heap.objs.size],its.toArray.size,_,_,λi=>(bs[i]?).getD true,rfl,Walks.list (A:=X.A.in1) (I.ok.hd hc) _ p (Nat.ne_of_lt B4) its.toArray,
  ⟨⟨_,Heap.get?_push_size _ rfl,rfl,rfl⟩,hl.push _⟩,λi v s' Q' E' hP hQ=>?_,λh' tk hk=>?_⟩
 ·obtain⟨b,e,rfl⟩:=hb.get i v (by simpa using hP);simp only[e,Option.getD_some]at hQ;exact wpAny_truthy_bool hQ
 ·have e:((List.range its.toArray.size).all λi=>(bs[i]?).getD true)=bs.all id:=by
   rw[List.size_toArray,hb.length];exact LSm.range_all bs
  rw[e];exact⟨.bl (bs.all id),H,I.kept (LSm.kept_iter hk),rfl,q⟩
theorem Sf(hc:X.calm=true):EO X (.builtin "any") (λxs H Q=>∃(p:Addr)(bs:List Bool),xs=[.ref p]/\Rd H p (.lst (bs.map V.bl))/\Q (.bl (bs.any id)) H):=by
 intro AH s σ H xs us Q I r h;obtain⟨p,bs,rfl,hq,q⟩:=h;obtain⟨u,rfl,rx⟩:=vals1 r;cases rx;obtain⟨z,its,n,rv,e⟩:=hq.ok I.A2;have hb:=R0 rv;have hl:s.heap.IsList p its.toArray:=⟨_,e,rfl,n,rfl⟩;have B4:p<s.heap.objs.size:=Heap.lt_size e;refine call_any_walk (wpAny_pyIter_list hl ?_);refine⟨s.heap.objs.size,[s.heap.objs.size,p],[s.heap.objs.size],its.toArray.size,_,_,λi=>(bs[i]?).getD false,rfl,Walks.list (A:=X.A.in1) (I.ok.hd hc) _ p (Nat.ne_of_lt B4) its.toArray,
  ⟨⟨_,Heap.get?_push_size _ rfl,rfl,rfl⟩,hl.push _⟩,λi v s' Q' E' hP hQ=>?_,λh' tk hk=>?_⟩
 ·obtain⟨b,e,rfl⟩:=hb.get i v (by simpa using hP);simp only[e,Option.getD_some]at hQ;exact wpAny_truthy_bool hQ
 ·have e:((List.range its.toArray.size).any λi=>(bs[i]?).getD false)=bs.any id:=by
   rw[List.size_toArray,hb.length];exact LSm.range_any bs
  rw[e];exact⟨.bl (bs.any id),H,I.kept (LSm.kept_iter hk),rfl,q⟩
def Pz:List RV->Option RV
 |[r]=>(r.list.bind E8).map λns=>.cl (.int ns.sum)
 |_=>none
def F9:List RV->Option RV
 |[r]=>(r.list.bind HI).map λns=>.cl (.bl (ns.all id))
 |_=>none
def KZ:List RV->Option RV
 |[r]=>(r.list.bind HI).map λns=>.cl (.bl (ns.any id))
 |_=>none
theorem qA:GR X.K Pz (λxs H Q=>∃(p:Addr)(ns:List Int),xs=[.ref p]/\Rd H p (.lst (ns.map V.int))/\Q (.int ns.sum) H):=by
 intro rs z H0 G H vs Q sub sh e rv q;unfold Pz at e;split at e
 ·rename_i r;cases es:r.list with
  |none=>rw[es]at e;cases e
  |some ps=>
   rw[es]at e;cases ei:E8 ps with
   |none=>rw[Option.bind_some,ei]at e;cases e
   |some ns=>
    rw[Option.bind_some,ei]at e;cases e;obtain⟨v,rfl,hv⟩:=rv.one;obtain⟨a,us,rfl,hq,rl⟩:=hv.list sub es;rw[NZ ei rl]at hq;exact⟨a,ns,rfl,hq,q _ G H (A9.refl sub) (by show Rep _ _ _ _;unfold Rep;rfl)⟩
 ·cases e
theorem Nt:GR X.K F9 (λxs H Q=>∃(p:Addr)(ns:List Bool),xs=[.ref p]/\Rd H p (.lst (ns.map V.bl))/\Q (.bl (ns.all id)) H):=by
 intro rs z H0 G H vs Q sub sh e rv q;unfold F9 at e;split at e
 ·rename_i r;cases es:r.list with
  |none=>rw[es]at e;cases e
  |some ps=>
   rw[es]at e;cases ei:HI ps with
   |none=>rw[Option.bind_some,ei]at e;cases e
   |some ns=>
    rw[Option.bind_some,ei]at e;cases e;obtain⟨v,rfl,hv⟩:=rv.one;obtain⟨a,us,rfl,hq,rl⟩:=hv.list sub es;rw[R3 ei rl]at hq;exact⟨a,ns,rfl,hq,q _ G H (A9.refl sub) (by show Rep _ _ _ _;unfold Rep;rfl)⟩
 ·cases e
theorem UU:GR X.K KZ (λxs H Q=>∃(p:Addr)(ns:List Bool),xs=[.ref p]/\Rd H p (.lst (ns.map V.bl))/\Q (.bl (ns.any id)) H):=by
 intro rs z H0 G H vs Q sub sh e rv q;unfold KZ at e;split at e
 ·rename_i r;cases es:r.list with
  |none=>rw[es]at e;cases e
  |some ps=>
   rw[es]at e;cases ei:HI ps with
   |none=>rw[Option.bind_some,ei]at e;cases e
   |some ns=>
    rw[Option.bind_some,ei]at e;cases e;obtain⟨v,rfl,hv⟩:=rv.one;obtain⟨a,us,rfl,hq,rl⟩:=hv.list sub es;rw[R3 ei rl]at hq;exact⟨a,ns,rfl,hq,q _ G H (A9.refl sub) (by show Rep _ _ _ _;unfold Rep;rfl)⟩
 ·cases e
end
end L2.PL
namespace L2.PL
open PySem PySem.Spec PyProof.Rows
def ER(ρ:AZ)(σ:St)(ρ':AZ)(Aq:St):Prop:=∀(i:Nat)(s:SV),s.F8=true->ρ'[i]? = some (some s)->ρ[i]? = some (some s)/\Aq[i]? = σ[i]?
theorem ER.refl(ρ:AZ)(σ:St):ER ρ σ ρ σ:=λ_ _ _ h=>⟨h,rfl⟩
theorem ER.trans{ρ BW Cu:AZ}{σ Jj Ey:St}(a:ER ρ σ BW Jj)(b:ER BW Jj Cu Ey):ER ρ σ Cu Ey:=λi ps o h=>by
 obtain⟨h1,e1⟩:=b i ps o h;obtain⟨h2,e2⟩:=a i ps o h1;exact⟨h2,e1.trans e2⟩
abbrev GF:=PV->AZ->Option AZ
def Q8(K:W.Frag)(g:GF):TG:=λv σ H Q=>∃G ρ p ρ',CW K G H ρ σ/\Rep K G p v/\g p ρ=some ρ'/\∀Aq,CW K G H ρ' Aq->ER ρ σ ρ' Aq->Q Aq H
def Jq(X:Cx)(tg:Expr)(g:GF):Prop:=PG X tg (Q8 X.K g)
abbrev IX:=List PV->AZ->Option AZ
def uN(K:W.Frag)(g:IX):Ho:=λvs σ H Q=>∃G ρ ps ρ',CW K G H ρ σ/\AX K G ps vs/\g ps ρ=some ρ'/\∀Aq,CW K G H ρ' Aq->ER ρ σ ρ' Aq->Q Aq H
def MZ(X:Cx)(ts:List Expr)(g:IX):Prop:=HG X ts (uN X.K g)
theorem PG.imp{X:Cx}{e:Expr}{t t':TG}(h:PG X e t)(i:∀v σ H Q,t' v σ H Q->t v σ H Q):PG X e t':=λAH s σ H v u Q I r q=>h AH s σ H v u Q I r (i v σ H Q q)
theorem HG.imp{X:Cx}{e:List Expr}{t t':Ho}(h:HG X e t)(i:∀v σ H Q,t' v σ H Q->t v σ H Q):HG X e t':=λAH s σ H v u Q I r q=>h AH s σ H v u Q I r (i v σ H Q q)
theorem get_set{α:Type}{l:List (Option α)}{i j:Nat}{x y:α}(h:(l.set i (some x))[j]? = some (some y)):(j=i/\x=y)\/(j≠i/\l[j]? = some (some y)):=by
 by_cases e:j=i
 ·subst e;by_cases hl:j<l.length
  ·rw[List.getElem?_set_self hl]at h;left;exact⟨rfl,by simpa using h⟩
  ·rw[List.set_eq_of_length_le (by omega)]at h;rw[List.getElem?_eq_none (by omega)]at h;cases h
 ·right;rw[List.getElem?_set_ne (Ne.symm e)]at h;exact⟨e,h⟩
theorem set_slot{α:Type}{l:List (Option α)}{i:Nat}{x:α}(h:i<l.length):(l.set i (some x))[i]? = some (some x):=by rw[List.getElem?_set_self h]
theorem Zv{α:Type}{l:List (Option α)}{i:Nat}{x y:α}(h:(l.set i (some x))[i]? = some (some y)):i<l.length:=by
 have:=(List.getElem?_eq_some_iff.mp h).1;simpa using this
theorem CW.IS{K:W.Frag}{G H:Hp}{ρ:AZ}{σ:St}{i:Nat}{p:PV}{v:V}(R:CW K G H ρ σ)(h:Rep K G p v):CW K G H (ρ.set i (some (.im p))) (σ.set i (some v)):=by
 refine⟨R.sub,λj sv e=>?_,λj k ps qs a b Aw e1 o1 e2 o2 e3 e4=>?_,by simpa using R.len⟩
 ·rcases get_set e with⟨rfl,rfl⟩|⟨hj,e'⟩
  ·have hl:=Zv e;exact⟨v,set_slot (by rw[<-R.len];exact hl),h⟩
  ·obtain⟨w,e1,q⟩:=R.slot j sv e';exact⟨w,by rw[List.getElem?_set_ne (Ne.symm hj)];exact e1,q⟩
 ·rcases get_set e1 with⟨_,z⟩|⟨h1,e1⟩
  ·subst z;cases o1
  ·rcases get_set e2 with⟨_,z⟩|⟨h2,e2⟩
   ·subst z;cases o2
   ·rw[List.getElem?_set_ne (Ne.symm h1)]at e3;rw[List.getElem?_set_ne (Ne.symm h2)]at e4;exact R.apart j k ps qs a b Aw e1 o1 e2 o2 e3 e4
theorem ER.IS{ρ:AZ}{σ:St}{i:Nat}{p:PV}{v:V}:ER ρ σ (ρ.set i (some (.im p))) (σ.set i (some v)):=λj ps o h=>by
 rcases get_set h with⟨_,z⟩|⟨hj,e⟩
 ·subst z;cases o
 ·exact⟨e,by rw[List.getElem?_set_ne (Ne.symm hj)]⟩
def Ag(i:Nat):GF:=λp ρ=>some (ρ.set i (some (.im p)))
section
variable{X:Cx}{a b c e tg iter:Expr}{es:List Expr}{fa fb fc f:EF}{ga:AF}{g:GF}{gs:IX}{pos:Pos}
theorem Bf(i:Nat){x:Str}(hN:X.N.Nodup)(hi:X.N[i]? = some x:=by rfl)(hx:Loc X.env.scope x:=by first|exact Or.inl rfl|exact Or.inr rfl)(hf:X.fn x=true\/X.env.scope.names.lookup x=some .local:=by first|exact .inl rfl|exact .inr rfl):Jq X (.Name x pos) (Ag i):=
 PG.imp (qX (i:=i) hN hi hx hf) λv σ H Q ⟨G,ρ,p,ρ',R,rp,e,q⟩=>by
  cases e;exact q _ (R.IS rp) ER.IS
def D8:IX:=λps ρ=>match ps with|[]=>some ρ|_=>none
def CJ(g:GF)(h:IX):IX:=λps ρ=>match ps with|p::r=>(match g p ρ with|some BW=>h r BW|none=>none)|[]=>none
theorem JT:MZ X [] D8:=HG.imp qa λv σ H Q ⟨G,ρ,ps,ρ',R,rp,e,q⟩=>by
 unfold D8 at e;split at e
 ·cases e;unfold AX at rp;exact⟨rp,q σ R (ER.refl _ _)⟩
 ·cases e
theorem EM(h1:Jq X e g)(h2:MZ X es gs)(hs:(assignEach (e::es) X.env).map (·.2)=assign e X.env::(assignEach es X.env).map (·.2):=by rfl):MZ X (e::es) (CJ g gs):=HG.imp (qZ h1 h2 hs) λv σ H Q ⟨G,ρ,ps,ρ',R,rp,e,q⟩=>by
 unfold CJ at e;split at e
 ·rename_i p r;split at e
  ·rename_i BW e1;unfold AX at rp;obtain⟨u,us,rfl,ru,rs⟩:=rp;exact⟨u,us,rfl,G,ρ,p,BW,R,ru,e1,λJj R1 k1=>⟨G,BW,r,ρ',R1,rs,e,λEy R2 k2=>q Ey R2 (k1.trans k2)⟩⟩
  ·cases e
 ·cases e
def D7(n:Nat)(gs:IX):GF:=λp ρ=>match p with|.tup ps=>if ps.length=n then gs ps ρ else none|_=>none
theorem JS{k:Nat}{n:Nat}(hc:X.calm=true)(h:MZ X es gs)(hn:(assignEach es X.env).length=n:=by rfl)(F6:(assignEach es X.env).findIdx? (·.1)=none:=by rfl):Jq X (.Tuple es k pos) (D7 n gs):=
 PG.imp (qY hc h hn F6) λv σ H Q ⟨G,ρ,p,ρ',R,rp,e,q⟩=>by
  unfold D7 at e;split at e
  ·rename_i ps;split at e
   ·rename_i hl;unfold Rep at rp;obtain⟨a,vs,rfl,hq,rl⟩:=rp;exact⟨a,vs,rfl,DV.same R.sub hq,by rw[<-rl.len];exact hl,G,ρ,ps,ρ',R,rl,e,q⟩
   ·cases e
  ·cases e
structure RN(J:It)(K:W.Frag)(G Hx:Hp)(ps:List PV):Prop where
 ex:∃vs,AX K G ps vs/\∀H,A4 Hx H->(∀(i:Nat)(x:V),vs[i]? = some x->J.go i H/\∀y H',J.RF i H y H'->H'=H/\y=x)/\J.stop vs.length H
abbrev IF:=AZ->Option (List PV)
def cz(K:W.Frag)(cl:Bool)(f:IF):TI:=λσ H R=>∃G ρ ps,CW K G H ρ σ/\f ρ=some ps/\∀J G' H',A9 G H G' H'->RN J K G' (if cl=true then G' else H') ps->R J H'
def Jr(X:Cx)(cl:Bool)(tg iter:Expr)(f:IF):Prop:=PI X tg iter (cz X.K cl f)
theorem PI.imp{X:Cx}{tg iter:Expr}{t t':TI}(h:PI X tg iter t)(i:∀σ H Q,t' σ H Q->t σ H Q):PI X tg iter t':=λAH s σ H Q I q=>h AH s σ H Q I (i σ H Q q)
theorem ZL{K:W.Frag}{G Hx:Hp}{ps:List PV}{vs:List V}{a:Addr}(h:AX K G ps vs)(hq:Rd Hx a (.lst vs)):RN (RP K a) K G Hx ps:=by
 refine⟨vs,h,λH s=>⟨λi x e=>⟨⟨vs,x,.inl (Rd.same s hq),e⟩,λy H' ⟨e1,e2⟩=>⟨e1,?_⟩⟩,⟨vs,.inl (Rd.same s hq),Nat.le_refl _⟩⟩⟩;have:=e2 vs (.inl (Rd.same s hq));rw[e]at this;exact(Option.some.inj this).symm
def Bp(cl:Bool)(f:EF):IF:=λρ=>match f ρ with|some r=>(if cl=true then(match r.clean with|some (.lst ps)=>some ps|_=>none)else r.list)|none=>none
theorem Dz{cl:Bool}(h:PX X iter f):Jr X cl tg iter (Bp cl f):=PI.imp (qb h) λσ H Q ⟨G,ρ,ps,R,e,q⟩=>by
 unfold Bp at e;split at e
 ·rename_i r er;refine⟨G,ρ,r,R,er,λv G' H' s rv=>?_⟩;cases cl with
  |true=>
   rw[if_pos rfl]at e;split at e
   ·rename_i qs ec;cases e;have rc:=rv.clean s.sub ec;unfold Rep at rc;obtain⟨a,vs,rfl,hq,rl⟩:=rc;exact⟨a,rfl,⟨vs,.inl (Rd.same s.all.sub hq)⟩,q _ _ _ s.all (ZL rl hq)⟩
   ·cases e
  |false=>
   rw[if_neg (by simp)]at e;obtain⟨a,vs,rfl,hq,rl⟩:=rv.list s.sub e;exact⟨a,rfl,⟨vs,.inl hq⟩,q _ _ _ s (ZL rl hq)⟩
 ·cases e
def Kk(i j:Int):List PV:=(List.range (j-i).toNat).map λ(k:Nat)=>.int (i+(k:Int))
theorem ZM{K:W.Frag}{G Hx:Hp}{i:Int}{n:Nat}:RN (MY i n) K G Hx ((List.range n).map λ(k:Nat)=>.int (i+(k:Int))):=by
 refine⟨(List.range n).map λ(k:Nat)=>.int (i+(k:Int)),?_,λH _=>⟨λk x e=>?_,by show n<=_;simp⟩⟩
 ·have key:∀l:List Nat,AX K G (l.map λk=>PV.int (i+(k:Nat))) (l.map λk=>V.int (i+(k:Nat))):=by
   intro l
   induction l with
   |nil=>unfold List.map AX;rfl
   |cons x r ih=>
    rw[List.map_cons,List.map_cons];unfold AX;exact⟨_,_,rfl,by unfold Rep;rfl,ih⟩
  exact key _
 ·rw[List.getElem?_map]at e;cases e2:(List.range n)[k]? with
  |none=>rw[e2]at e;cases e
  |some m=>
   rw[e2]at e;obtain⟨h1,h2⟩:=List.getElem?_eq_some_iff.mp e2;rw[List.getElem_range]at h2;subst h2;cases e;exact⟨(show k<n by simpa using h1),λy H' ⟨e1,e2⟩=>⟨e1,e2⟩⟩
def IV(i:Int):Prop:=-(2 ^ 62)<=i/\i<2 ^ 62
instance{i:Int}:Decidable (IV i):=by unfold IV;infer_instance
def CI(g:AF):IF:=λρ=>match g ρ with|some [.cl (.int j)]=>if IV j then some (Kk 0 j)else none|_=>none
def El(g:AF):IF:=λρ=>match g ρ with|some [.cl (.int i),.cl (.int j)]=>if IV i/\IV j then some (Kk i j)else none|_=>none
theorem Ec{cl:Bool}{p:Pos}(hm:X.mg "range" = none)(ha:Dr X [a] ga)(hg:Gl X "range":=by rfl)(hs:starEach [a] X.env=[(false,eval a X.env)]:=by rfl):Jr X cl tg (.Call (.Name "range" p) [a] [] pos) (CI ga):=PI.imp (qc hg hm ha hs) λσ H Q ⟨G,ρ,ps,R,e,q⟩=>by
 unfold CI at e;split at e
 ·rename_i j er;split at e
  ·rename_i hj;cases e;refine⟨G,ρ,_,R,er,λv G' H' s rv=>?_⟩;obtain⟨w,rfl,hw⟩:=rv.one;refine⟨j,by rw[hw.int],hj.1,hj.2,q _ _ _ s ?_⟩;have:=ZM (K:=X.K) (G:=G') (Hx:=if cl=true then G' else H') (i:=0) (n:=j.toNat);simpa[Kk]using this
  ·cases e
 ·cases e
theorem QY{cl:Bool}{p:Pos}(hm:X.mg "range" = none)(ha:Dr X [a,b] ga)(hg:Gl X "range":=by rfl)(hs:starEach [a,b] X.env=[(false,eval a X.env),(false,eval b X.env)]:=by rfl)(Pm:starEach [b] X.env=[(false,eval b X.env)]:=by rfl):Jr X cl tg (.Call (.Name "range" p) [a,b] [] pos) (El ga):=PI.imp (qd hg hm ha hs Pm) λσ H Q ⟨G,ρ,ps,R,e,q⟩=>by
 unfold El at e;split at e
 ·rename_i i j er;split at e
  ·rename_i hj;cases e;refine⟨G,ρ,_,R,er,λv G' H' s rv=>?_⟩;obtain⟨w,w',rfl,hw,lu⟩:=rv.two;refine⟨i,j,by rw[hw.int,lu.int],⟨hj.1.1,hj.1.2,hj.2.1,hj.2.2⟩,q _ _ _ s ?_⟩;exact ZM (K:=X.K) (G:=G') (Hx:=if cl=true then G' else H') (i:=i) (n:=(j-i).toNat)
  ·cases e
 ·cases e
def B8(own:Nat)(cap:List Nat)(ρ:AZ):AZ:=List.replicate own none++cap.map λj=>(ρ[j]?).join
def collect(g:GF)(t:BF)(fe:EF)(ρb:AZ):List PV->Option (List PV)
 |[]=>some []
 |x::xs=>match g x ρb with
  |none=>none
  |some BW=>match t BW with
   |none=>none
   |some false=>collect g t fe ρb xs
   |some true=>match fe BW with
    |none=>none
    |some r=>match r.clean,collect g t fe ρb xs with
     |some p,some ps=>some (p::ps)
     |_,_=>none
def Bt(its:IF)(own:Nat)(cap:List Nat)(g:GF)(t:BF)(fe:EF):EF:=λρ=>match its ρ with
 |none=>none
 |some xs=>if xs.length<=1000 then(collect g t fe (B8 own cap ρ) xs).map .fr else none
theorem CW.cap{K:W.Frag}{G H:Hp}{ρ:AZ}{σ:St}(R:CW K G H ρ σ)(own:Nat)(cap:List Nat)(Gi:cap.Nodup):CW K G H (B8 own cap ρ) (Fw own cap σ):=by
 have get:∀{i:Nat}{sv:SV},(B8 own cap ρ)[i]? = some (some sv)->∃k j,i=own+k/\cap[k]? = some j/\ρ[j]? = some (some sv):=by
  intro i sv h;unfold B8 at h;by_cases hi:i<own
  ·rw[List.getElem?_append_left (by simpa using hi),List.getElem?_replicate]at h;split at h<;>simp at h
  ·rw[List.getElem?_append_right (by simpa using hi),List.getElem?_map]at h;simp only[List.length_replicate]at h;cases hj:cap[i-own]? with
   |none=>rw[hj]at h;simp at h
   |some j=>
    rw[hj]at h;simp only[Option.map_some,Option.some.injEq]at h;refine⟨i-own,j,by omega,hj,?_⟩;cases hs:ρ[j]? with
    |none=>rw[hs]at h;simp at h
    |some o=>rw[hs]at h;simp at h;rw[h]
 have put:∀{k j:Nat}{v:V},cap[k]? = some j->σ[j]? = some (some v)->(Fw own cap σ)[own+k]? = some (some v):=by
  intro k j v h1 h2;unfold Fw;rw[List.getElem?_append_right (by simp),List.getElem?_map];simp only[List.length_replicate,Nat.add_sub_cancel_left,h1,Option.map_some,h2,Option.join]
  rfl
 refine⟨R.sub,λi sv e=>?_,λi j ps qs a b Aw e1 o1 e2 o2 e3 e4=>?_,by simp[B8,Fw]⟩
 ·obtain⟨k,j,rfl,hj,e'⟩:=get e;obtain⟨v,ev,q⟩:=R.slot j sv e';exact⟨v,put hj ev,q⟩
 ·obtain⟨k1,j1,rfl,Yj,Mr⟩:=get e1;obtain⟨k2,j2,rfl,Yk,O0⟩:=get e2;obtain⟨v1,Xy,_⟩:=R.slot j1 _ Mr;obtain⟨v2,Iq,_⟩:=R.slot j2 _ O0;rw[put Yj Xy]at e3;rw[put Yk Iq]at e4;cases e3;cases e4;refine R.apart j1 j2 ps qs a b (λz=>Aw ?_) Mr o1 O0 o2 Xy Iq;subst z;obtain⟨l1,q1⟩:=List.getElem?_eq_some_iff.mp Yj;obtain⟨l2,q2⟩:=List.getElem?_eq_some_iff.mp Yk;have:=(List.getElem_inj Gi).mp (q1.trans q2.symm);omega
theorem CW.aM{K:W.Frag}{G H:Hp}{ρ:AZ}{σ:St}(R:CW K G H ρ σ):∀(j:Nat)(s:SV)(b:Addr),s.F8=true->ρ[j]? = some (some s)->σ[j]? = some (some (.ref b))->H b≠none:=λj s b o e1 e2 z=>by
 obtain⟨v,ev,q⟩:=R.slot j _ e1;rw[ev]at e2;cases e2;cases s with
 |im p=>cases o
 |exc nm=>cases o
 |own ps=>
  obtain⟨a,vs,h,_,ha,_⟩:=q;cases h;rw[z]at ha;cases ha
 |Kd t ks xs=>
  obtain⟨a,vs,h,_,ha,_⟩:=q;cases h;rw[z]at ha;cases ha
theorem CW.weak{K:W.Frag}{G H:Hp}{ρ ρ':AZ}{σ:St}(R:CW K G H ρ' σ)(h:∀(k:Nat)(sv:SV),ρ[k]? = some (some sv)->ρ'[k]? = some (some sv))(hl:ρ.length=ρ'.length):CW K G H ρ σ:=
 ⟨R.sub,λi sv e=>R.slot i sv (h i sv e),λi j ps qs a b Aw e1 o1 e2 o2 e3 e4=>R.apart i j ps qs a b Aw (h _ _ e1) o1 (h _ _ e2) o2 e3 e4,hl.trans R.len⟩
theorem CW.Vo{K:W.Frag}{G H:Hp}{ρ:AZ}{σ:St}{D:Addr}{o:HO}(R:CW K G H ρ σ)(g:G D=none)(h:∀(k:Nat)(s:SV),s.F8=true->ρ[k]? = some (some s)->σ[k]?≠some (some (.ref D))):CW K G (upd H D o) ρ σ:=by
 refine⟨λb u q=>by rw[CS (Ep q g)];exact R.sub _ _ q,λi sv e=>?_,R.apart,R.len⟩;obtain⟨v,e1,q⟩:=R.slot i sv e;refine⟨v,e1,?_⟩;cases sv with
 |exc nm=>exact q
 |im p=>exact q
 |own ps=>
  obtain⟨a,vs,rfl,ga,ha,r⟩:=q;refine⟨a,vs,rfl,ga,?_,r⟩;rw[CS (λz=>h i _ rfl e (by rw[e1,z]))];exact ha
 |Kd t ks xs=>
  obtain⟨a,vs,rfl,ga,ha,r⟩:=q;refine⟨a,vs,rfl,ga,?_,r⟩;rw[CS (λz=>h i _ rfl e (by rw[e1,z]))];exact ha
theorem A9.Vo{G H G' H':Hp}{D:Addr}{o:HO}(s:A9 G H G' H')(h:H D=none)(g:G' D=none):A9 G H G' (upd H' D o):=
 ⟨s.gg,λb u q=>by rw[CS (Ep q h)];exact s.hh _ _ q,λb u q=>by rw[CS (Ep q g)];exact s.sub _ _ q,s.ex⟩
def K2(own:Nat)(g:GF):Prop:=∀p ρ ρ',g p ρ=some ρ'->ρ'.length=ρ.length/\∀(k:Nat),own<=k->ρ'[k]? = ρ[k]?
def Oe(own:Nat)(g:IX):Prop:=∀p ρ ρ',g p ρ=some ρ'->ρ'.length=ρ.length/\∀(k:Nat),own<=k->ρ'[k]? = ρ[k]?
theorem Cf{own i:Nat}(h:i<own:=by decide):K2 own (Ag i):=λp ρ ρ' e=>by
 cases e;exact⟨List.length_set,λk hk=>List.getElem?_set_ne (by omega)⟩
theorem KG{own:Nat}:Oe own D8:=λp ρ ρ' e=>by
 unfold D8 at e;split at e
 ·cases e;exact⟨rfl,λ_ _=>rfl⟩
 ·cases e
theorem E5{own:Nat}(h1:K2 own g)(h2:Oe own gs):Oe own (CJ g gs):=λp ρ ρ' e=>by
 unfold CJ at e;split at e
 ·split at e
  ·rename_i BW e1;obtain⟨a1,a2⟩:=h1 _ _ _ e1;obtain⟨b1,b2⟩:=h2 _ _ _ e;exact⟨b1.trans a1,λk hk=>(b2 k hk).trans (a2 k hk)⟩
  ·cases e
 ·cases e
theorem KD{own n:Nat}(h:Oe own gs):K2 own (D7 n gs):=λp ρ ρ' e=>by
 unfold D7 at e;split at e
 ·split at e
  ·exact h _ _ _ e
  ·cases e
 ·cases e
theorem gS{own:Nat}{cap:List Nat}{ρ:AZ}{k:Nat}{sv:SV}(h:(B8 own cap ρ)[k]? = some (some sv)):own<=k:=by
 unfold B8 at h;by_cases hi:k<own
 ·rw[List.getElem?_append_left (by simpa using hi),List.getElem?_replicate]at h;split at h<;>simp at h
 ·omega
theorem c7{K:W.Frag}{own:Nat}{cap:List Nat}{its:IF}{t:BF}{fe:EF}(Gi:cap.Nodup)(hk:K2 own g){σ:St}{H:Hp}{Q:VK}(h:tX K (Bt its own cap g t fe) σ H Q):Vh own cap (cz K false its) (Q8 K g) (Fl K t) (tX K fe) σ H Q:=by
 obtain⟨G,ρ,r,R,e,q⟩:=h;unfold Bt at e;split at e
 ·cases e
 ·rename_i xs ex;split at e
  ·rename_i hz;cases ec:collect g t fe (B8 own cap ρ) xs with
   |none=>rw[ec]at e;cases e
   |some zs=>
    rw[ec]at e;cases e;refine⟨G,ρ,xs,R,ex,λJ G1 H1 s1 J1=>λD hD=>?_⟩;obtain⟨vs,rl,hJ⟩:=J1.ex;rw[if_neg (by simp)]at hJ;have CO:=rl.len;have R1:CW K G1 H1 (B8 own cap ρ) (Fw own cap σ):=(R.step s1).cap own cap Gi;refine⟨λi m Aq H'=>m=xs.length-i/\i<=xs.length/\∃G' ys ps Bh,A9 G1 H1 G' H'/\G' D=none/\H' D=some (.lst ys)/\AX K G' ps ys/\ps.length<=i/\collect g t fe (B8 own cap ρ) (xs.drop i)=some Bh/\ps++Bh=zs/\
     CW K G' H' (B8 own cap ρ) Aq/\(∀(k:Nat)(s:SV),s.F8=true->(B8 own cap ρ)[k]? = some (some s)->Aq[k]?≠some (some (.ref D))),⟨xs.length,by simp,Nat.zero_le _,G1,[],[],zs,A9.JR s1.sub _ hD,s1.sub.free hD,Fm,by unfold AX;rfl,Nat.le_refl _,by rw[List.drop_zero];exact ec,rfl,?_,?_⟩,?_⟩
    ·exact R1.step (A9.JR s1.sub _ hD)
    ·intro k s ho CC z;exact R1.aM k s D ho CC z hD
    ·rintro i m Aq H' ⟨rfl,hi,G',ys,ps,Bh,st,gD,M8,rp,B7,E7,PZ,RO,hold⟩;obtain⟨TY,Tx⟩:=hJ H' st.hh;by_cases B4:i<xs.length
     ·right;have NX:vs[i]? = some vs[i]:=List.getElem?_eq_getElem (by omega);obtain⟨go,yl⟩:=TY i _ NX;have T2:xs[i]? = some xs[i]:=List.getElem?_eq_getElem B4;have Tv:Rep K G' xs[i] vs[i]:=by
       obtain⟨u,eu,ru⟩:=Nv rl.paired T2;rw[NX]at eu;cases eu;exact Rep.same st.gg ru
      have NF:xs.drop i=xs[i]::xs.drop (i+1):=List.drop_eq_getElem_cons B4;rw[NF]at E7;unfold collect at E7;split at E7
      ·cases E7
      ·rename_i BW e1;obtain⟨kl,kk⟩:=hk _ _ _ e1;have hw:∀(k:Nat)(sv:SV),(B8 own cap ρ)[k]? = some (some sv)->BW[k]? = some (some sv):=λk sv h=>by rw[kk k (gS h)];exact h
       refine⟨go,λIU FK=>∃Jp dh Es Qb,A9 G1 H1 Jp FK/\Jp D=none/\FK D=some (.lst dh)/\AX K Jp Es dh/\Es.length<=i+1/\collect g t fe (B8 own cap ρ) (xs.drop (i+1))=some Qb/\Es++Qb=zs/\
        CW K Jp FK (B8 own cap ρ) IU/\(∀(k:Nat)(s:SV),s.F8=true->(B8 own cap ρ)[k]? = some (some s)->IU[k]?≠some (some (.ref D))),λIU FK hN=>⟨xs.length-(i+1),by omega,rfl,by omega,hN⟩,λy H3 hy=>?_⟩
       obtain⟨rfl,rfl⟩:=yl y H3 hy;refine⟨G',B8 own cap ρ,xs[i],BW,RO,Tv,e1,λJj Md oM=>?_⟩;have Tq:∀(k:Nat)(s:SV),s.F8=true->(B8 own cap ρ)[k]? = some (some s)->Jj[k]?≠some (some (.ref D)):=λk qs o h z=>by
        obtain⟨h1,h2⟩:=oM k qs o (hw k _ h);rw[h2]at z;exact hold k qs o h z
       split at E7
       ·cases E7
       ·rename_i et;refine⟨G',BW,false,Md,et,λG2 H2 s2=>?_⟩;refine HY ?_;exact⟨G2,ys,ps,Bh,st.trans s2,s2.ex D (.l M8) gD,s2.hh _ _ M8,AX.same s2.gg rp,by omega,E7,PZ,(Md.step s2).weak hw kl.symm,Tq⟩
       ·rename_i et;refine⟨G',BW,true,Md,et,λG2 H2 s2=>?_⟩;refine HZ ?_;split at E7
        ·cases E7
        ·rename_i rr er;split at E7
         ·rename_i p Qb ep i8;cases E7;refine⟨G2,BW,rr,Md.step s2,er,λv G3 H3 s3 rv=>?_⟩;have Qg:=s3.all;have YY:H2 D=some (.lst ys):=s2.hh _ _ M8;have jq:G2 D=none:=s2.ex D (.l M8) gD;have TB:FQ G3 H2 H3 D=none:=Qg.ex D (.l YY) jq;have xo:ys.length=ps.length:=rp.len.symm;refine⟨ys,s3.hh _ _ YY,Nat.lt_of_le_of_lt (show ys.length<=1000 by omega) (by decide),FQ G3 H2 H3,ys ++ [v],ps ++ [p],Qb,?_,TB,Fm,?_,?_,i8,?_,?_,Tq⟩
          ·exact((st.trans s2).trans Qg).Vo hD TB
          ·exact AX.of (L5 (AX.same (s2.gg.trans Qg.gg) rp).paired (.cons (rv.clean s3.sub ep) .nil))
          ·rw[List.length_append,List.length_singleton];omega
          ·rw[List.append_assoc];exact PZ
          ·exact(((Md.step s2).step Qg).weak hw kl.symm).Vo TB Tq
         ·cases E7
     ·left;have Ta:i=xs.length:=by omega
      subst Ta;rw[List.drop_length]at E7;cases E7;rw[List.append_nil]at PZ;subst PZ;refine⟨by rw[CO];exact Tx,q _ G' H' (s1.trans st) ⟨D,ys,rfl,s1.hh.free hD,gD,M8,rp⟩⟩
  ·cases e
variable{ifs:List Expr}{elt:Expr}{scope:Scope}{Nb:List Str}{own:Nat}{cap:List Nat}{its:IF}{t:BF}{fe:EF}
def Ma(X:Cx)(ifs:List Expr)(t:BF):Prop:=HH X ifs (Fl X.K t)
theorem HH.imp{X:Cx}{e:List Expr}{t t':TT}(h:HH X e t)(i:∀σ H Q,t' σ H Q->t σ H Q):HH X e t':=λAH s σ H Q I q=>h AH s σ H Q I (i σ H Q q)
def B6:BF:=λ_=>some true
theorem EC:Ma X [] B6:=HH.imp qg λσ H Q ⟨G,ρ,r,R,e,q⟩=>by
 cases e;exact q G H (A9.refl R.sub)
theorem N2(h:Eh X c t):Ma X [c] t:=qh h
theorem Dy(hc:X.calm=true)(O:IW X scope Nb own cap)(Gi:cap.Nodup)(hk:K2 own g)(hi:Jr X false tg iter its)(hg:∀C s H fp AH,Jq (Cw X Nb scope C s H fp AH) tg g)(ht:∀C s H fp AH,Ma (Cw X Nb scope C s H fp AH) ifs t)(he:∀C s H fp AH,PX (Cw X Nb scope C s H fp AH) elt fe) (hs:∀x,foldedSetIterable iter X.env x=pure x:=by intro _;rfl):PX X (.ListComp elt [⟨tg,iter,ifs,0⟩] scope pos) (Bt its own cap g t fe):=
 PE.imp (qK (g:=Q8 X.K g) (ti:=Fl X.K t) (te:=tX X.K fe) hc O hi hg ht he hs) λ_ _ _ h=>c7 Gi hk h
end
inductive Out where
 |nx (ρ:AZ)|rt (r:RV)|bk (ρ:AZ)|ct (ρ:AZ)
abbrev SF:=AZ->Option Out
structure SR(K:W.Frag)(Av Ao G H:Hp)(ρ:AZ)(σ:St):Prop where
 r:CW K G H ρ σ
 gg:A4 Av G
 hh:A4 Ao H
 ex:∀a,Mu Ao a->Av a=none->G a=none
 new:∀(i:Nat)(s:SV)(a:Addr),s.F8=true->ρ[i]? = some (some s)->σ[i]? = some (some (.ref a))->Ao a=none
theorem SR.step{K:W.Frag}{Av Ao G H G' H':Hp}{ρ:AZ}{σ:St}(s:A9 G H G' H')(h:SR K Av Ao G H ρ σ):SR K Av Ao G' H' ρ σ:=
 ⟨h.r.step s,h.gg.trans s.gg,h.hh.trans s.hh,λa e n=>s.ex a (e.same h.hh) (h.ex a e n),h.new⟩
theorem SR.Q1{K:W.Frag}{Av Ao G H:Hp}{ρ:AZ}{σ:St}(h:SR K Av Ao G H ρ σ):A9 Av Ao G H:=⟨h.gg,h.hh,h.r.sub,h.ex⟩
theorem SR.turn{K:W.Frag}{Av Ao G H:Hp}{ρ ρ':AZ}{σ Aq:St}(h:SR K Av Ao G H ρ σ)(r:CW K G H ρ' Aq)(k:ER ρ σ ρ' Aq):SR K Av Ao G H ρ' Aq:=
 ⟨r,h.gg,h.hh,h.ex,λi ps a o e1 e2=>by
  obtain⟨h1,h2⟩:=k i ps o e1;exact h.new i ps a o h1 (h2 ▸ e2)⟩
def Og(K:W.Frag)(Av Ao G:Hp)(D:Ends):Out->Prop
 |.nx ρ'=>∀Aq G' H',A4 G G'->SR K Av Ao G' H' ρ' Aq->D.nx Aq H'
 |.bk ρ'=>∀Aq G' H',A4 G G'->SR K Av Ao G' H' ρ' Aq->D.bk Aq H'
 |.ct ρ'=>∀Aq G' H',A4 G G'->SR K Av Ao G' H' ρ' Aq->D.ct Aq H'
 |.rt r=>∀v G' H',A9 Av Ao G' H'->Cm K Ao G' H' r v->D.rt v H'
theorem Og.mono{K:W.Frag}{Av Ao G G1:Hp}{D:Ends}{o:Out}(s:A4 G G1)(h:Og K Av Ao G D o):Og K Av Ao G1 D o:=by
 cases o with
 |nx ρ=>exact λAq G' H' q=>h Aq G' H' (s.trans q)
 |bk ρ=>exact λAq G' H' q=>h Aq G' H' (s.trans q)
 |ct ρ=>exact λAq G' H' q=>h Aq G' H' (s.trans q)
 |rt r=>exact h
def OM(K:W.Frag)(Av Ao:Hp)(g:SF):TS:=λD σ H=>∃G ρ o,SR K Av Ao G H ρ σ/\g ρ=some o/\Og K Av Ao G D o
def Eg(X:Cx)(Av Ao:Hp)(st:Stmt)(g:SF):Prop:=PS X st (OM X.K Av Ao g)
def GS(X:Cx)(Av Ao:Hp)(st:List Stmt)(g:SF):Prop:=D4 X st (OM X.K Av Ao g)
def A8:SF:=λρ=>some (.nx ρ)
def AQ(g h:SF):SF:=λρ=>match g ρ with|some (.nx ρ')=>h ρ'|o=>o
section
variable{X:Cx}{Av Ao:Hp}{a b c e tg iter:Expr}{es:List Expr}{fa fb fc f:EF}{ga:AF}{t:BF}{gt:GF}{pos:Pos}{st:Stmt}{Bh body Sn:List Stmt}{g h:SF}
theorem Bz:GS X Av Ao [] A8:=D4.imp qz λD σ H ⟨G,ρ,o,S,e,k⟩=>by
 cases e;exact k σ G H (A4.refl _) S
theorem Ab(h1:Eg X Av Ao st g)(h2:GS X Av Ao Bh h):GS X Av Ao (st::Bh) (AQ g h):=D4.imp (qy h1 h2) λD σ H ⟨G,ρ,o,S,e,k⟩=>by
 unfold AQ at e;cases eg:g ρ with
 |none=>rw[eg]at e;cases e
 |some o1=>
  rw[eg]at e;cases o1 with
  |nx BW=>exact⟨G,ρ,_,S,eg,λAq G' H' s S'=>⟨G',BW,o,S',e,k.mono s⟩⟩
  |rt r=>cases e;exact⟨G,ρ,_,S,eg,k⟩
  |bk r=>cases e;exact⟨G,ρ,_,S,eg,k⟩
  |ct r=>cases e;exact⟨G,ρ,_,S,eg,k⟩
theorem Ah(h1:Eg X Av Ao st g):GS X Av Ao [st] g:=q8 h1
def Ax(t:BF)(g h:SF):SF:=λρ=>match t ρ with|some true=>g ρ|some false=>h ρ|none=>none
theorem Bs(hc:Eh X c t)(ha:GS X Av Ao body g)(hb:GS X Av Ao Sn h):Eg X Av Ao (.If c body Sn pos) (Ax t g h):=PS.imp (qu hc ha hb) λD σ H ⟨G,ρ,o,S,e,k⟩=>by
 unfold Ax at e;split at e
 ·rename_i et;refine⟨G,ρ,true,S.r,et,λG1 H1 s1=>?_⟩;refine HZ ?_;exact⟨G1,ρ,o,S.step s1,e,k.mono s1.gg⟩
 ·rename_i et;refine⟨G,ρ,false,S.r,et,λG1 H1 s1=>?_⟩;refine HY ?_;exact⟨G1,ρ,o,S.step s1,e,k.mono s1.gg⟩
 ·cases e
def YR:SF:=λ_=>none
theorem rV:Eg X Av Ao st YR:=PS.imp qv λD σ H ⟨G,ρ,o,S,e,k⟩=>by cases e
def Al(f:EF):SF:=λρ=>match f ρ with|some (.cl p)=>some (.rt (.cl p))|some (.fr ps)=>some (.rt (.fr ps))|_=>none
theorem BB(he:PX X e f):Eg X Av Ao (.Return (some e) pos) (Al f):=PS.imp (bC he) λD σ H ⟨G,ρ,o,S,e,k⟩=>by
 unfold Al at e;split at e
 ·rename_i p er;cases e;exact⟨G,ρ,_,S.r,er,λv G' H' s rv=>k v G' H' (S.Q1.trans s) rv⟩
 ·rename_i ps er;cases e;exact⟨G,ρ,_,S.r,er,λv G' H' s rv=>k v G' H' (S.Q1.trans s) (rv.back S.hh)⟩
 ·cases e
def PM(i:Nat):SF:=λρ=>match ρ[i]? with|some (some (.own ps))=>some (.rt (.fr ps))|_=>none
theorem bK(i:Nat){x:Str}{p:Pos}(hN:X.N[i]? = some x:=by rfl)(hv:Ia X.env.scope x:=by first|exact Or.inl rfl|exact Or.inr (Or.inl rfl)|exact Or.inr (Or.inr rfl))(hd:(x==("__debug__" : Str))=false:=by decide) (C3:(x==("__classdict__" : Str))=false:=by decide):Eg X Av Ao (.Return (some (.Name x p)) pos) (PM i):=PS.imp (bC (Nx (i:=i) hN hv hd C3)) λD σ H ⟨G,ρ,o,S,e,k⟩=>by
 unfold PM at e;split at e
 ·rename_i ps er;cases e;obtain⟨v,ev,a,vs,rfl,ga,ha,rl⟩:=S.r.slot i _ er;exact⟨_,ev,k _ G H S.Q1 ⟨a,vs,rfl,S.new i _ a rfl er ev,ga,ha,rl⟩⟩
 ·cases e
def Ai(i:Nat)(f:EF):SF:=λρ=>match f ρ with|some r=>(match r.clean with|some p=>some (.nx (ρ.set i (some (.im p))))|none=>none)|none=>none
theorem cf{te:TE}{i:Nat}{D:Ends}{σ:St}{H:Hp}(h:∀Q,tX X.K f σ H Q->te σ H Q)(q:OM X.K Av Ao (Ai i f) D σ H):Q5 te (M6 i) D σ H:=by
 obtain⟨G,ρ,o,S,e,k⟩:=q;unfold Ai at e;split at e
 ·rename_i r er;split at e
  ·rename_i p ep;cases e;refine h _ ⟨G,ρ,r,S.r,er,λv G' H' s rv=>?_⟩;have S':=S.step s.all;exact k _ _ _ s.all.gg (S'.turn (S'.r.IS (rv.clean s.sub ep)) ER.IS)
  ·cases e
 ·cases e
theorem BR(i:Nat){x:Str}{p:Pos}(hN:X.N.Nodup)(he:PX X e f)(hi:X.N[i]? = some x:=by rfl)(hx:Loc X.env.scope x:=by first|exact Or.inl rfl|exact Or.inr rfl)(hs:swapsWith e (some (.Name x p)) pos.line X.env=pure false:=by rfl)(hf:X.fn x=true\/X.env.scope.names.lookup x=some .local:=by first|exact .inl rfl|exact .inr rfl) : Eg X Av Ao (.Assign [.Name x p] e pos) (Ai i f):=PS.imp (bD (i:=i) hN hi hx he hs hf) λD σ H q=>cf (λ_ z=>z) q
def E4(i:Nat)(f:EF):SF:=λρ=>match f ρ with|some (.fr ps)=>some (.nx (ρ.set i (some (.own ps))))|_=>none
theorem SR.sj{K:W.Frag}{G H:Hp}{ρ:AZ}{σ:St}{i:Nat}{s:SV}{a:Addr}{H1:Hp}(S:SR K Av Ao G H ρ σ)(s1:A4 Ao H1)(ho:∀(j:Nat)(s:SV)(b:Addr),s.F8=true->ρ[j]? = some (some s)->σ[j]? = some (some (.ref b))->H1 b≠none) (n:H1 a=none) (ok:K5 K G H s (.ref a)):SR K Av Ao G H (ρ.set i (some s)) (σ.set i (some (.ref a))):=by
 have R:=S.r;refine⟨⟨R.sub,λj sv e=>?_,λj k qs rs b c Aw e1 o1 e2 o2 e3 e4=>?_,by simpa using R.len⟩,S.gg,S.hh,S.ex,λj qs b o1 e1 e2=>?_⟩
 ·rcases get_set e with⟨rfl,rfl⟩|⟨hj,e'⟩
  ·have hl:=Zv e;exact⟨_,set_slot (by rw[<-R.len];exact hl),ok⟩
  ·obtain⟨w,e1,q⟩:=R.slot j sv e';exact⟨w,by rw[List.getElem?_set_ne (Ne.symm hj)];exact e1,q⟩
 ·rcases get_set e1 with⟨h1,_⟩|⟨h1,f1⟩
  ·rcases get_set e2 with⟨h2,_⟩|⟨h2,f2⟩
   ·exact absurd (h1.trans h2.symm) Aw
   ·subst h1;rw[List.getElem?_set_ne (Ne.symm h2)]at e4;have hl:j<σ.length:=by
     have:=(List.getElem?_eq_some_iff.mp e3).1;simpa using this
    rw[set_slot hl]at e3;cases e3;intro z;exact ho k rs c o2 f2 e4 (z ▸ n)
  ·rcases get_set e2 with⟨h2,_⟩|⟨h2,f2⟩
   ·subst h2;rw[List.getElem?_set_ne (Ne.symm h1)]at e3;have hl:k<σ.length:=by
     have:=(List.getElem?_eq_some_iff.mp e4).1;simpa using this
    rw[set_slot hl]at e4;cases e4;intro z;exact ho j qs b o1 f1 e3 (z.symm ▸ n)
   ·rw[List.getElem?_set_ne (Ne.symm h1)]at e3;rw[List.getElem?_set_ne (Ne.symm h2)]at e4;exact R.apart j k qs rs b c Aw f1 o1 f2 o2 e3 e4
 ·rcases get_set e1 with⟨h1,_⟩|⟨h1,f1⟩
  ·subst h1;have hl:j<σ.length:=by
    have:=(List.getElem?_eq_some_iff.mp e2).1;simpa using this
   rw[set_slot hl]at e2;cases e2;exact s1.free n
  ·rw[List.getElem?_set_ne (Ne.symm h1)]at e2;exact S.new j qs b o1 f1 e2
theorem SR.sk{K:W.Frag}{G H:Hp}{ρ:AZ}{σ:St}{i:Nat}{ps:List PV}{a:Addr}{vs:List V}{H1:Hp}(S:SR K Av Ao G H ρ σ)(s1:A4 Ao H1)(ho:∀(j:Nat)(s:SV)(b:Addr),s.F8=true->ρ[j]? = some (some s)->σ[j]? = some (some (.ref b))->H1 b≠none) (n:H1 a=none) (ga:G a=none) (ha:H a=some (.lst vs)) (rl:AX K G ps vs):SR K Av Ao G H (ρ.set i (some (.own ps))) (σ.set i (some (.ref a))):=
 S.sj s1 ho n ⟨a,vs,rfl,ga,ha,rl⟩
theorem tU{te:TE}{i:Nat}{D:Ends}{σ:St}{H:Hp}(h:∀Q,tX X.K f σ H Q->te σ H Q)(q:OM X.K Av Ao (E4 i f) D σ H):Q5 te (M6 i) D σ H:=by
 obtain⟨G,ρ,o,S,e,k⟩:=q;unfold E4 at e;split at e
 ·rename_i ps er;cases e;refine h _ ⟨G,ρ,_,S.r,er,λv G' H' s rv=>?_⟩;obtain⟨a,vs,rfl,n,ga,ha,rl⟩:=rv;exact k _ _ _ s.gg ((S.step s).sk S.hh S.r.aM n ga ha rl)
 ·cases e
theorem Kj(i:Nat){x:Str}{p:Pos}(hN:X.N.Nodup)(he:PX X e f)(hi:X.N[i]? = some x:=by rfl)(hx:Loc X.env.scope x:=by first|exact Or.inl rfl|exact Or.inr rfl)(hs:swapsWith e (some (.Name x p)) pos.line X.env=pure false:=by rfl)(hf:X.fn x=true\/X.env.scope.names.lookup x=some .local:=by first|exact .inl rfl|exact .inr rfl) : Eg X Av Ao (.Assign [.Name x p] e pos) (E4 i f):=PS.imp (bD (i:=i) hN hi hx he hs hf) λD σ H q=>tU (λ_ z=>z) q
section
variable{ifs:List Expr}{elt:Expr}{scope:Scope}{Nb:List Str}{own:Nat}{cap:List Nat}{its:IF}{fe:EF}{C2:Pos}
theorem QZ(i:Nat){x:Str}{p:Pos}(hN:X.N.Nodup)(hc:X.calm=true)(O:IW X scope Nb own cap)(Gi:cap.Nodup)(hk:K2 own gt)(hi:Jr X false tg iter its)(hg:∀C s H fp AH,Jq (Cw X Nb scope C s H fp AH) tg gt)(ht:∀C s H fp AH,Ma (Cw X Nb scope C s H fp AH) ifs t)(he:∀C s H fp AH,PX (Cw X Nb scope C s H fp AH) elt fe) (C4:X.N[i]? = some x:=by rfl) (hx:Loc X.env.scope x:=by first|exact Or.inl rfl|exact Or.inr rfl) (IE:swapsWith (.ListComp elt [⟨tg,iter,ifs,0⟩] scope C2) (some (.Name x p)) pos.line X.env=pure true:=by rfl) (hs:∀x,foldedSetIterable iter X.env x=pure x:=by intro _;rfl) (hf:X.fn x=true\/X.env.scope.names.lookup x=some .local:=by first|exact .inl rfl|exact .inr rfl) : Eg X Av Ao (.Assign [.Name x p] (.ListComp elt [⟨tg,iter,ifs,0⟩] scope C2) pos) (Ai i (Bt its own cap gt t fe)):=
 PS.imp (qx (i:=i) (g:=Q8 X.K gt) (ti:=Fl X.K t) (te:=tX X.K fe) hN C4 hx hc O hi hg ht he IE hs hf) λD σ H q=>cf (λ_ z=>c7 Gi hk z) q
end
theorem SR.chg{K:W.Frag}{G H:Hp}{ρ:AZ}{σ:St}{i:Nat}{s s':SV}{a:Addr}{o:HO}(S:SR K Av Ao G H ρ σ)(hs:s.F8=true)(er:ρ[i]? = some (some s))(es:σ[i]? = some (some (.ref a)))(ga:G a=none)(ok:K5 K G (upd H a o) s' (.ref a)) : SR K Av Ao G (upd H a o) (ρ.set i (some s')) σ:=by
 have R:=S.r;have hn:=S.new i s a hs er es;refine⟨⟨λb u q=>by rw[CS (Ep q ga)];exact R.sub _ _ q,λj sv e=>?_,λj k xs ys b c Aw e1 o1 e2 o2 e3 e4=>?_,by simpa using R.len⟩,S.gg,λb u q=>by rw[CS (Ep q hn)];exact S.hh _ _ q,S.ex,λj xs b o1 e1 e2=>?_⟩
 ·rcases get_set e with⟨rfl,rfl⟩|⟨hj,e'⟩
  ·exact⟨_,es,ok⟩
  ·obtain⟨w,e1,q⟩:=R.slot j sv e';refine⟨w,e1,?_⟩;cases sv with
   |exc nm=>exact q
   |im p=>exact q
   |own xs=>
    obtain⟨b,ws,rfl,gb,hb,rb⟩:=q;refine⟨b,ws,rfl,gb,?_,rb⟩;rw[CS (λz=>R.apart j i _ s b a hj e' rfl er hs e1 es z)];exact hb
   |Kd t ks xs=>
    obtain⟨b,ws,rfl,gb,hb,rb⟩:=q;refine⟨b,ws,rfl,gb,?_,rb⟩;rw[CS (λz=>R.apart j i _ s b a hj e' rfl er hs e1 es z)];exact hb
 ·rcases get_set e1 with⟨h1,_⟩|⟨h1,f1⟩
  ·rcases get_set e2 with⟨h2,_⟩|⟨h2,f2⟩
   ·exact absurd (h1.trans h2.symm) Aw
   ·subst h1;exact R.apart j k s ys b c Aw er hs f2 o2 e3 e4
  ·rcases get_set e2 with⟨h2,_⟩|⟨h2,f2⟩
   ·subst h2;exact R.apart j k xs s b c Aw f1 o1 er hs e3 e4
   ·exact R.apart j k xs ys b c Aw f1 o1 f2 o2 e3 e4
 ·rcases get_set e1 with⟨h1,_⟩|⟨h1,f1⟩
  ·subst h1;rw[es]at e2;cases e2;exact hn
  ·exact S.new j xs b o1 f1 e2
theorem SR.change{K:W.Frag}{G H:Hp}{ρ:AZ}{σ:St}{i:Nat}{ps qs:List PV}{a:Addr}{us:List V}(S:SR K Av Ao G H ρ σ)(er:ρ[i]? = some (some (.own ps)))(es:σ[i]? = some (some (.ref a)))(ga:G a=none)(rl:AX K G qs us) : SR K Av Ao G (upd H a (.lst us)) (ρ.set i (some (.own qs))) σ:=S.chg rfl er es ga ⟨a,us,rfl,ga,Fm,rl⟩
def Cy(i:Nat)(k:List PV->List PV->Option (List PV))(ga:AF):SF:=λρ=>match ρ[i]?,ga ρ with
 |some (some (.own ps)),some rs=>(match DW rs with|some qs=>(match k ps qs with|some Es=>some (.nx (ρ.set i (some (.own Es))))|none=>none)|none=>none)
 |_,_=>none
def WG(K:W.Frag)(k:List PV->List PV->Option (List PV))(r:V->List V->Hp->VK->Prop):Prop:=
 ∀(ps qs Es:List PV)(G H:Hp)(a:Addr)(vs us:List V)(Q:VK),k ps qs=some Es->H a=some (.lst vs)->AX K G ps vs->AX K G qs us->(∀ws v,AX K G Es ws->Q v (upd H a (.lst ws)))->r (.ref a) us H Q
theorem tw{i:Nat}{k:List PV->List PV->Option (List PV)}{r:V->List V->Hp->VK->Prop}(hk:WG X.K k r){D:Ends}{σ:St}{H:Hp}(q:OM X.K Av Ao (Cy i k ga) D σ H):cv (cg X.K "list" r (Vj i) (Vk X.K ga)) D σ H:=by
 obtain⟨G,ρ,o,S,e,ok⟩:=q;unfold Cy at e;split at e
 ·rename_i ps rs er ea;split at e
  ·rename_i qs ec;split at e
   ·rename_i Es ek;cases e;obtain⟨v,ev,a,vs,rfl,g,ha,rl⟩:=S.r.slot i _ er;refine⟨_,ev,.inl ⟨rfl,vs,.inl (.inl ha)⟩,G,ρ,rs,S.r,ea,λus G1 H1 s1 rv=>?_⟩;have S1:=S.step s1.all;refine hk ps qs Es (FQ G1 H H1) H1 a vs us _ ek (s1.hh _ _ ha) (AX.same s1.all.gg rl) (Jx s1.sub rv ec) λws w Fe=>?_;exact ok _ _ _ s1.all.gg (S1.change er ev (s1.all.ex a (.l ha) g) Fe)
   ·cases e
  ·cases e
 ·cases e
def DS(ps qs:List PV):Option (List PV):=match qs with|[p]=>if ps.length<1000 then some (ps ++ [p])else none|_=>none
theorem nY{K:W.Frag}:WG K DS bO:=by
 intro ps qs Es G H a vs us Q e ha rl rq q;unfold DS at e;split at e
 ·rename_i p;split at e
  ·rename_i hz;cases e;unfold AX at rq;obtain⟨v,r,rfl,rv,rn⟩:=rq;unfold AX at rn;subst rn;have hl:=rl.len;exact⟨a,vs,v,rfl,rfl,ha,cJ (by omega),q _ _ (AX.of (L5 rl.paired (.cons rv .nil)))⟩
  ·cases e
 ·cases e
theorem L9(i:Nat){x:Str}{p ap:Pos}(ha:Dr X (e::es) ga)(hN:X.N[i]? = some x:=by rfl)(hv:Ia X.env.scope x:=by first|exact Or.inl rfl|exact Or.inr (Or.inl rfl)|exact Or.inr (Or.inr rfl))(hd:(x==("__debug__" : Str))=false:=by decide) (C3:(x==("__classdict__" : Str))=false:=by decide) (NB:attributeBase (.Name x p) "append" X.env (eval (.Name x p) X.env)=eval (.Name x p) X.env:=by rfl) {C2:Pos} (JB:((backTo C2 (starEach (e::es) X.env)).all (λx=>!x.1)&&(backToKw C2 (keywordEach [] X.env)).all (λx=>x.1.isSome)
  && decide ((e::es).length+([]:List Keyword).length+(if([]:List Keyword).isEmpty then 0 else 1)<30))=true:=by rfl)
 (NM:(ap.endLine==C2.line)=true:=by rfl) (hs:starEach (e::es) X.env=(false,eval e X.env)::starEach es X.env:=by rfl) (NS:(backTo C2 (starEach es X.env)).any (·.1)=false:=by rfl)
 (IE:swapsWith (.Call (.Attribute (.Name x p) "append" ap) (e::es) [] C2) none pos.line X.env=pure false:=by rfl) :
 Eg X Av Ao (.Expr (.Call (.Attribute (.Name x p) "append" ap) (e::es) [] C2) pos) (Cy i DS ga):=
 PS.imp (UZ (aZ PySem.F.plainAttrs_list PySem.F.slot_list_append PySem.F.type_list_append Z2 (Nx (i:=i) hN hv hd C3) ha NB JB NM hs NS) IE) λ_ _ _ q=>tw nY q
def EB(gt:GF)(body:SF):List PV->AZ->Option Out
 |[],ρ=>some (.nx ρ)
 |x::xs,ρ=>match gt x ρ with
  |none=>none
  |some BW=>match body BW with
   |some (.nx Cu)=>EB gt body xs Cu
   |some (.ct Cu)=>EB gt body xs Cu
   |some (.bk Cu)=>some (.nx Cu)
   |some (.rt r)=>some (.rt r)
   |none=>none
def DI(its:IF)(gt:GF)(body:SF):SF:=λρ=>match its ρ with|some xs=>EB gt body xs ρ|none=>none
theorem Ed{its:IF}(hc:X.calm=true)(hp:PassesOwn (model X.prog X.w) X.A X.env X.xe)(hi:Jr X true tg iter its)(hg:Jq X tg gt)(hb:GS X Av Ao body g)(hs:∀x,foldedSetIterable iter X.env x=pure x:=by intro _;rfl) : Eg X Av Ao (.For tg iter body [] pos) (DI its gt g):=PS.imp (qt hp hc hi hg hb hs) λD σ H ⟨G,ρ,o,S,e,ok⟩=>by
 unfold DI at e;split at e
 ·rename_i xs ex;refine⟨G,ρ,xs,S.r,ex,λJ G1 H1 s1 J1=>?_⟩;obtain⟨vs,rl,hJ⟩:=J1.ex;rw[if_pos rfl]at hJ;have CO:=rl.len;refine⟨λi m Aq H'=>m=xs.length-i/\i<=xs.length/\∃G' ρ',SR X.K Av Ao G' H' ρ' Aq/\A4 G1 G'/\EB gt g (xs.drop i) ρ'=some o,⟨xs.length,by simp,Nat.zero_le _,G1,ρ,S.step s1,A4.refl _,by rw[List.drop_zero];exact e⟩,?_⟩;rintro i m Aq H' ⟨rfl,C4,G',ρ',S',sg,hl⟩;obtain⟨TY,Tx⟩:=hJ H' (sg.trans S'.r.sub);by_cases B4:i<xs.length
  ·right;have NX:vs[i]? = some vs[i]:=List.getElem?_eq_getElem (by omega);obtain⟨go,yl⟩:=TY i _ NX;have T2:xs[i]? = some xs[i]:=List.getElem?_eq_getElem B4;have Tv:Rep X.K G' xs[i] vs[i]:=by
    obtain⟨u,eu,ru⟩:=Nv rl.paired T2;rw[NX]at eu;cases eu;exact Rep.same sg ru
   have NF:xs.drop i=xs[i]::xs.drop (i+1):=List.drop_eq_getElem_cons B4;rw[NF]at hl;unfold EB at hl;split at hl
   ·cases hl
   ·rename_i BW e1;refine⟨go,λIU FK=>∃Jp dj,SR X.K Av Ao Jp FK dj IU/\A4 G1 Jp/\EB gt g (xs.drop (i+1)) dj=some o,λIU FK hN=>⟨xs.length-(i+1),by omega,rfl,by omega,hN⟩,λy H3 hy=>?_⟩;obtain⟨rfl,rfl⟩:=yl y H3 hy;refine⟨G',ρ',xs[i],BW,S'.r,Tv,e1,λJj R1 k1=>?_⟩;split at hl
    ·rename_i Cu eb;exact⟨G',BW,_,S'.turn R1 k1,eb,λEy G2 H2 s2 S2=>⟨G2,Cu,S2,sg.trans s2,hl⟩⟩
    ·rename_i Cu eb;exact⟨G',BW,_,S'.turn R1 k1,eb,λEy G2 H2 s2 S2=>⟨G2,Cu,S2,sg.trans s2,hl⟩⟩
    ·rename_i Cu eb;cases hl;exact⟨G',BW,_,S'.turn R1 k1,eb,λEy G2 H2 s2 S2=>ok Ey G2 H2 ((s1.gg.trans sg).trans s2) S2⟩
    ·rename_i r eb;cases hl;exact⟨G',BW,_,S'.turn R1 k1,eb,ok⟩
    ·cases hl
  ·left;have Ta:i=xs.length:=by omega
   subst Ta;rw[List.drop_length]at hl;cases hl;exact⟨by rw[CO];exact Tx,ok Aq G' H' (s1.gg.trans sg) S'⟩
 ·cases e
end
def BX(N:Nat)(ps:List PV):AZ:=ps.map (λp=>some (.im p))++List.replicate (N-ps.length) none
def Out.val:Out->Option RV
 |.rt r=>some r
 |.nx _=>some (.cl .Bq)
 |_=>none
def denote(N n:Nat)(g:SF):List PV->Option RV:=λps=>if ps.length=n then(g (BX N ps)).bind Out.val else none
theorem Ul{N:Nat}{ps:List PV}{i:Nat}{sv:SV}(h:(BX N ps)[i]? = some (some sv)):∃p,ps[i]? = some p/\sv=.im p:=by
 unfold BX at h;by_cases hi:i<ps.length
 ·rw[List.getElem?_append_left (by simpa using hi),List.getElem?_map]at h;cases e:ps[i]? with
  |none=>rw[e]at h;cases h
  |some p=>rw[e]at h;cases h;exact⟨p,rfl,rfl⟩
 ·rw[List.getElem?_append_right (by simpa using hi),List.getElem?_replicate]at h;split at h<;>cases h
theorem tS{N:List Str}{vs:List V}{i:Nat}{v:V}(h:vs[i]? = some v):(start N vs)[i]? = some (some v):=by
 unfold start;have hi:i<vs.length:=(List.getElem?_eq_some_iff.mp h).1;rw[List.getElem?_append_left (by simpa using hi),List.getElem?_map,h]
 rfl
theorem tQ{K:W.Frag}{N:List Str}{G H:Hp}{ps:List PV}{vs:List V}(s:A4 G H)(h:AX K G ps vs):SR K G H G H (BX N.length ps) (start N vs):=by
 refine⟨⟨s,λi sv e=>?_,λi j qs rs a b _ e1 o _ _ _ _=>?_,?_⟩,A4.refl _,A4.refl _,λ_ _ n=>n,λi qs a o e1 _=>?_⟩
 ·obtain⟨p,ep,rfl⟩:=Ul e;obtain⟨v,ev,rv⟩:=Nv h.paired ep;exact⟨v,tS ev,rv⟩
 ·obtain⟨p,_,z⟩:=Ul e1;subst z;cases o
 ·unfold BX start;rw[List.length_append,List.length_append,List.length_map,List.length_map,List.length_replicate,List.length_replicate,h.len]
 ·obtain⟨p,_,z⟩:=Ul e1;subst z;cases o
theorem jg{P:Program}{w:World}{K:W.Frag}{mg:Str->Option Value}{base:Heap}{x qual:Str}{st:Stmt}{f:Addr}{fd:FuncData}{N ps:List Str}{k:Nat}{g:SF}(F:Fq K x qual st f fd)(S:MX N ps (Bg st)) (NC:∀(Be:Value)(A:Around)(outer:List Env)(s:Shared)(H:Hp)(E:XK)(Av Ao:Hp),DG k (A.deeper (envOfC qual (Bg st) s.heap.objs.size f Be))->GS (Hv Ez P w K mg base N qual (Bg st) f Be A outer s H E).Kc Av Ao (Ga st) g) : Dp P w K mg base Ez (k+1) f fd ps (MD K ps.length (denote N.length ps.length g)):=by
 refine F.ok S (λvs H Q E h=>h.1) λBe A outer s H vs Q E hr h=>?_;obtain⟨hl,G,qs,r,sub,rl,e,q⟩:=h;refine⟨_,NC Be A outer s H E G H hr,?_⟩;unfold denote at e;split at e
 ·cases eg:g (BX N.length qs)with
  |none=>rw[eg]at e;cases e
  |some o=>
   rw[eg]at e;refine⟨G,BX N.length qs,o,tQ sub rl,eg,?_⟩;cases o with
   |rt r'=>
    cases e;exact λv G' H' s rv=>q v G' H' s rv
   |nx ρ=>
    cases e;exact λAq G' H' s S'=>q .Bq G' H' S'.Q1 (by show Rep _ _ _ _;unfold Rep;rfl)
   |bk ρ=>cases e
   |ct ρ=>cases e
 ·cases e
mutual
def A1:PV->PyData
 |.Bq=>.none
 |.bl b=>.bool b
 |.int i=>.int i
 |.str x=>.str x
 |.tup xs=>.tuple (DA xs)
 |.lst xs=>.list (DA xs)
 |.rd xs=>.list (DA xs)
 |.Fz _ _=>.dict []
def DA:List PV->List PyData
 |[]=>[]
 |x::xs=>A1 x::DA xs
end
section
variable{X:Cx}{AH:List (Addr×Obj)}{σ:St}{H:Hp}{s:Shared}
mutual
theorem Rep.reads(I:Inv X AH σ H s):∀{p:PV}{v:V}{u:Value},(A1 p).canLay0=true->Rep X.K H p v->RelV v u->∃as,Reads s.heap u (A1 p) as
 |.Bq,v,u,_,h,r=>by unfold Rep at h;subst h;cases r;exact⟨[],.none⟩
 |.bl b,v,u,_,h,r=>by unfold Rep at h;subst h;cases r;exact⟨[],.bool b⟩
 |.int i,v,u,_,h,r=>by unfold Rep at h;subst h;obtain⟨t,rfl⟩:=r;exact⟨[],.int i t⟩
 |.str i,v,u,_,h,r=>by unfold Rep at h;subst h;obtain⟨t,rfl⟩:=r;exact⟨[],.str i t⟩
 |.Fz _ _,v,u,c,h,r=>by unfold A1 PyData.canLay0 at c;cases c
 |.tup xs,v,u,c,h,r=>by
  unfold Rep at h;unfold A1 PyData.canLay0 at c;obtain⟨a,vs,rfl,hq,rl⟩:=h;cases r;obtain⟨its,rv,⟨o,ho,hc,n,hd⟩,_⟩:=I.tuple hq;obtain⟨as,ra⟩:=AX.reads I c rl rv;exact⟨as,by unfold A1;exact .tuple ho hc hd (by simpa using ra)⟩
 |.lst xs,v,u,c,h,r=>by
  unfold Rep at h;unfold A1 PyData.canLay0 at c;obtain⟨a,vs,rfl,hq,rl⟩:=h;cases r;obtain⟨z,its,n,rv,e⟩:=hq.ok I.A2;obtain⟨as,ra⟩:=AX.reads I c rl rv;exact⟨a::as,by unfold A1;exact .list e rfl rfl (by simpa using ra)⟩
 |.rd xs,v,u,c,h,r=>by
  unfold Rep at h;unfold A1 PyData.canLay0 at c;obtain⟨a,vs,rfl,hq,rl⟩:=h;cases r;obtain⟨its,rv,⟨o,n,ho,hc,Pe,hd⟩,_⟩:=I.list hq;obtain⟨as,ra⟩:=AX.reads I c rl rv;exact⟨a::as,by unfold A1;exact .list ho hc hd (by simpa using ra)⟩
theorem AX.reads(I:Inv X AH σ H s):∀{ps:List PV}{vs:List V}{us:List Value},PyData.canLayAll0 (DA ps)=true->AX X.K H ps vs->BA vs us->∃as,ReadsAll s.heap us (DA ps) as
 |[],vs,us,_,h,r=>by unfold AX at h;subst h;cases r;exact⟨[],.nil⟩
 |p::ps,vs,us,c,h,r=>by
  unfold AX at h;unfold DA PyData.canLayAll0 at c;rw[Bool.and_eq_true]at c;obtain⟨v,vr,rfl,hv,hr⟩:=h;cases r with
  |cons r1 r2=>
   obtain⟨as,ra⟩:=Rep.reads I c.1 hv r1;obtain⟨bs,rb⟩:=AX.reads I c.2 hr r2;exact⟨as++bs,by unfold DA;exact .cons ra rb⟩
end
def Qa(K:W.Frag)(neg:Bool):R2:=λx y H Q=>∃p q,Rep K H p x/\Rep K H q y/\SeqAt.shaped (A1 p)=true/\SeqAt.shaped (A1 q)=true/\Q (.bl (if neg=true then !PyData.eqv (A1 p) (A1 q)else PyData.eqv (A1 p) (A1 q))) H
theorem pT(hu:X.A.units+64<cLine):B3 X (compareOp .Eq) (Qa X.K false):=by
 intro AH s σ H x y v u Q I rx ry ⟨p,q,hp,hq,sp,sq,k⟩;obtain⟨as,ra⟩:=Rep.reads I (SeqAt.canLay_of_shaped sp) hp rx;obtain⟨bs,rb⟩:=Rep.reads I (SeqAt.canLay_of_shaped sq) hq ry;exact SeqAt.compareEq_shaped ra rb sp sq hu ⟨.bl _,H,I,rfl,k⟩
theorem pq(hu:X.A.units+64<cLine):B3 X (compareOp .NotEq) (Qa X.K true):=by
 intro AH s σ H x y v u Q I rx ry ⟨p,q,hp,hq,sp,sq,k⟩;obtain⟨as,ra⟩:=Rep.reads I (SeqAt.canLay_of_shaped sp) hp rx;obtain⟨bs,rb⟩:=Rep.reads I (SeqAt.canLay_of_shaped sq) hq ry;exact SeqAt.compareNe_shaped ra rb sp sq hu ⟨.bl _,H,I,rfl,k⟩
end
def CP(x y:RV):Option RV:=if SeqAt.shaped (A1 x.any)=true/\SeqAt.shaped (A1 y.any)=true then some (.cl (.bl (PyData.eqv (A1 x.any) (A1 y.any))))else none
def C0(x y:RV):Option RV:=if SeqAt.shaped (A1 x.any)=true/\SeqAt.shaped (A1 y.any)=true then some (.cl (.bl (!PyData.eqv (A1 x.any) (A1 y.any))))else none
section
variable{X:Cx}
theorem pM{K:W.Frag}:Dq K CP (Qa K false):=by
 intro x y z H0 G H vx vy Q sub sh e rx ry q;unfold CP at e;split at e
 ·rename_i h;cases e;exact⟨x.any,y.any,rx.any sub,ry.any sub,h.1,h.2,q _ G H (A9.refl sub) (by show Rep _ _ _ _;unfold Rep;rfl)⟩
 ·cases e
theorem pQ{K:W.Frag}:Dq K C0 (Qa K true):=by
 intro x y z H0 G H vx vy Q sub sh e rx ry q;unfold C0 at e;split at e
 ·rename_i h;cases e;exact⟨x.any,y.any,rx.any sub,ry.any sub,h.1,h.2,q _ G H (A9.refl sub) (by show Rep _ _ _ _;unfold Rep;rfl)⟩
 ·cases e
theorem GW(hu:X.A.units+64<cLine):DO X .Eq CP:=⟨_,pT hu,pM⟩
theorem GX(hu:X.A.units+64<cLine):DO X .NotEq C0:=⟨_,pq hu,pQ⟩
def Bl(neg:Bool)(x y:RV):Option RV:=match x,y.seq with
 |.cl (.int i),some ps=>(E8 ps).map λns=>.cl (.bl (if neg=true then !ns.any (· == i)else ns.any (· == i)))
 |_,_=>none
theorem aI{K:W.Frag}{neg:Bool}:Dq K (Bl neg) (Ug K neg):=by
 intro x y z H0 G H vx vy Q sub sh e rx ry q;unfold Bl at e;split at e
 ·rename_i i ps es;cases ei:E8 ps with
  |none=>rw[ei]at e;cases e
  |some ns=>
   rw[ei]at e;cases e;obtain⟨a,vs,rfl,hq,rl⟩:=ry.seq sub es;have lr:=NZ ei rl;subst lr;have Yh:Pr (.int i) (ns.map V.int)=ns.any (· == i):=by
    unfold Pr;rw[List.any_map]
    rfl
   refine⟨a,ns.map V.int,rfl,hq,by rw[rx.int];rfl,by rw[List.all_map];exact List.all_eq_true.mpr λ_ _=>rfl,?_⟩;rw[rx.int,Yh];exact q _ G H (A9.refl sub) (by show Rep _ _ _ _;unfold Rep;cases neg<;>rfl)
 ·cases e
theorem Wq:DO X .In (Bl false):=⟨_,pX,aI⟩
theorem Ox:DO X .NotIn (Bl true):=⟨_,p7,aI⟩
theorem QV{x:Str}{i:Int}{pos:Pos}(h:∃t,X.mg x=some (.int i t))(hg:Gl X x:=by rfl)(hd:(x==("__debug__" : Str))=false:=by decide):PX X (.Name x pos) (fC (.int i)):=by
 obtain⟨t,h⟩:=h;exact Nz (ae hg h (v:=.int i) ⟨t,rfl⟩ hd) λ_=>by unfold Rep;rfl
theorem rO{x:Str}{p:PV}{pos:Pos}(h:∃a,X.mg x=some (.ref a)/\∀G,Rep X.K G p (.ref a))(hg:Gl X x:=by rfl)(hd:(x==("__debug__" : Str))=false:=by decide):PX X (.Name x pos) (fC p):=by
 obtain⟨a,h,hr⟩:=h;exact Nz (ae hg h (v:=.ref a) rfl hd) hr
def Ae(P:Program)(w:World)(K:W.Frag)(mg:Str->Option Value)(base:Heap)(x:Str)(k n:Nat)(F:List PV->Option RV):Prop:=
 ∃f fd ps,Dp P w K mg base Ez k f fd ps (MD K n F)/\mg x=some (.ref f)/\W.keepIn K (.ref f)=true/\Binds K fd ps []/\ps.length=n
theorem Fn.of{x:Str}{j k n:Nat}{F:List PV->Option RV}(h:Ae X.prog X.w X.K X.mg X.base x j n F)(hr:DG k X.A)(hk:j<=k:=by decide):Fn X x n F:=by
 obtain⟨f,fd,ps,h1,h2,h3,h4,h5⟩:=h;exact⟨k,f,fd,ps,h1.mono hk,hr,h2,h3,h4,h5⟩
def DE(outer:List (Str×NameKind))(N:List Str)(scope:Scope)(Nb:List Str)(own:Nat)(cap:List Nat):Bool:=
 (scope.kind == .function)&&scope.names.all (λy=>y.2 != .cell||scope.names.lookup y.1==some .cell)&&scope.names.all (λx=>x.2 != .local||scope.names.lookup x.1==some .local) &&
 scope.names.all (λy=>y.2 != .free||(outer.lookup y.1==some .cell||outer.lookup y.1==some .free))&&(Nb.length==own+cap.length) &&
 (List.range cap.length).all (λk=>match cap[k]? with|some j=>(match Nb[own+k]?,N[j]? with|some x,some y=>x==y&&scope.names.lookup x==some .free|_,_=>false)|none=>false)
theorem DQ{scope:Scope}{Nb:List Str}{own:Nat}{cap:List Nat}(h:DE X.env.scope.names X.N scope Nb own cap=true):IW X scope Nb own cap:=by
 unfold DE at h;simp only[Bool.and_eq_true,List.all_eq_true,beq_iff_eq,bne_iff_ne,Bool.or_eq_true,List.mem_range]at h;obtain⟨⟨⟨⟨⟨h1,h2⟩,h3⟩,h4⟩,h5⟩,h6⟩:=h;refine⟨h1,λx hx hl=>?_,λx hx hl=>?_,λy hy hf=>?_,h5,λk j hj=>?_⟩
 ·rcases h2 x hx with z|z
  ·exact absurd hl z
  ·exact z
 ·rcases h3 x hx with z|z
  ·exact absurd hl z
  ·exact z
 ·rcases h4 y hy with z|z
  ·exact absurd hf z
  ·exact z
 ·have hk:k<cap.length:=(List.getElem?_eq_some_iff.mp hj).1;have:=h6 k hk;rw[hj]at this;dsimp only at this;split at this
  ·rename_i x y e1 e2;simp only[Bool.and_eq_true,beq_iff_eq]at this;obtain⟨rfl,z⟩:=this;exact⟨x,e1,e2,z⟩
  ·cases this
end
end L2.PL
namespace L2.PL
open PySem PySem.Spec PyProof.Rows
section
variable{X:Cx}{Av Ao:Hp}{a b c e:Expr}{es:List Expr}{fa fb f:EF}{ga:AF}{pos:Pos}
section
variable{x:Str}{p ap C2:Pos}
end
end
theorem Wb:bootBuiltins "isinstance" = some (.builtin "isinstance"):=by decide +kernel
theorem LD:bootBuiltins "abs" = some (.builtin "abs"):=by decide +kernel
theorem LF:bootBuiltins "max" = some (.builtin "max"):=by decide +kernel
theorem Om:bootBuiltins "min" = some (.builtin "min"):=by decide +kernel
theorem f7:bootBuiltins "sum" = some (.builtin "sum"):=by decide +kernel
theorem Mh:bootBuiltins "all" = some (.builtin "all"):=by decide +kernel
theorem R4:bootBuiltins "any" = some (.builtin "any"):=by decide +kernel
theorem fu:bootBuiltins "bool" = some (.type "bool"):=by decide +kernel
theorem fv:bootBuiltins "int" = some (.type "int"):=by decide +kernel
theorem R5:bootBuiltins "list" = some (.type "list"):=by decide +kernel
theorem f6:bootBuiltins "set" = some (.type "set"):=by decide +kernel
theorem f9:bootBuiltins "tuple" = some (.type "tuple"):=by decide +kernel
section
variable{X:Cx}{Av Ao:Hp}{a b c e:Expr}{es:List Expr}{fa fb f:EF}{ga:AF}{pos:Pos}
def Na(T:String):PV->Option Bool
 |.bl _=>if T = "bool" then some true else if T = "int" then some true else none
 |.int _=>if T = "int" then some true else if T = "bool" then some false else none
 |.str _=>if T = "str" then some true else none
 |.lst _=>if T = "list" then some true else none
 |_=>none
def IA(T:String)(f:EF):EF:=λρ=>match f ρ with|some r=>(Na T r.any).map λb=>.cl (.bl b)|none=>none
theorem uy{K:W.Frag}{H:Hp}{T:String}{p:PV}{v:V}{k:Bool}(h:Rep K H p v)(e:Na T p=some k) (h1:T = "bool"->W.kitOne K (.type "bool") (.type T)=some true/\W.kitOne K (.type "int") (.type T)=some false) (h2:T = "int"->W.kitOne K (.type "int") (.type T)=some true/\W.kitOne K (.type "bool") (.type T)=some true) (h3:T = "str"->W.kitOne K (.type "str") (.type T)=some true) (h4:T = "list"->W.kitOne K (.type "list") (.type T)=some true):∃t,FN K H v t/\W.kitOne K t (.type T)=some k:=by
 unfold Na at e;split at e
 ·unfold Rep at h;subst h;split at e
  ·cases e;exact⟨_,.bl _,(h1 ‹_›).1⟩
  ·split at e
   ·cases e;exact⟨_,.bl _,(h2 ‹_›).2⟩
   ·cases e
 ·unfold Rep at h;subst h;split at e
  ·cases e;exact⟨_,.int _,(h2 ‹_›).1⟩
  ·split at e
   ·cases e;exact⟨_,.int _,(h1 ‹_›).2⟩
   ·cases e
 ·unfold Rep at h;subst h;split at e
  ·cases e;exact⟨_,.str _,h3 ‹_›⟩
  ·cases e
 ·unfold Rep at h;obtain⟨a,vs,rfl,hq,_⟩:=h;split at e
  ·cases e;rcases hq with hq|⟨o,hq⟩
   ·exact⟨_,.lst hq,h4 ‹_›⟩
   ·exact⟨_,.Em hq,h4 ‹_›⟩
  ·cases e
 ·cases e
theorem gM{T:String}(h1:T = "bool"->W.kitOne X.K (.type "bool") (.type T)=some true/\W.kitOne X.K (.type "int") (.type T)=some false)(h2:T = "int"->W.kitOne X.K (.type "int") (.type T)=some true/\W.kitOne X.K (.type "bool") (.type T)=some true) (h3:T = "str"->W.kitOne X.K (.type "str") (.type T)=some true) (h4:T = "list"->W.kitOne X.K (.type "list") (.type T)=some true) : EO X (.builtin "isinstance") (λxs H Q=>∃x p k,xs=[x,.ty T]/\Rep X.K H p x/\Na T p=some k/\Q (.bl k) H):=by
 intro AH s σ H xs us Q I r ⟨x,p,k,e1,hp,ek,q⟩;subst e1;obtain⟨u,u2,rfl,ru,Uo⟩:=vals2 r;obtain rfl:u2=Value.type T:=Uo;obtain⟨t,ty,et⟩:=uy hp ek h1 h2 h3 h4;exact mN I ru ty et λtk=>⟨.bl k,H,I.tok _,rfl,q⟩
theorem Uc{T:String}{x:Str}{p p2:Pos}(h1:T = "bool"->W.kitOne X.K (.type "bool") (.type T)=some true/\W.kitOne X.K (.type "int") (.type T)=some false)(h2:T = "int"->W.kitOne X.K (.type "int") (.type T)=some true/\W.kitOne X.K (.type "bool") (.type T)=some true) (h3:T = "str"->W.kitOne X.K (.type "str") (.type T)=some true) (h4:T = "list"->W.kitOne X.K (.type "list") (.type T)=some true) (hm:X.mg "isinstance" = none) (Gh:X.mg x=none) (lq:bootBuiltins x=some (.type T)) (ha:PX X a fa) (hg:Gl X "isinstance":=by rfl) (Gf:Gl X x:=by rfl) (Pj:x≠"__name__":=by decide) (hd2:(x==("__debug__" : Str))=false:=by decide) (he:starEach [a,.Name x p2] X.env=(false,eval a X.env)::starEach [.Name x p2] X.env:=by rfl) (F2:starEach [.Name x p2] X.env=(false,eval (.Name x p2) X.env)::starEach [] X.env:=by rfl) (B7:(backTo pos (starEach [.Name x p2] X.env)).any (·.1)=false:=by rfl) : PX X (.Call (.Name "isinstance" p) [a,.Name x p2] [] pos) (IA T fa):=by
 refine PE.imp (QQ (gM h1 h2 h3 h4) hg hm Wb (Ke ha (Ke (aY (v:=.ty T) Gf Gh lq rfl Pj hd2) Nw F2) he) (by decide) (by decide) he B7) λσ H Q ⟨G,ρ,r,R,e,q⟩=>?_;unfold IA at e;split at e
 ·rename_i r' er;cases ek:Na T r'.any with
  |none=>rw[ek]at e;cases e
  |some k=>
   rw[ek]at e;cases e;refine⟨G,ρ,r',R,er,λv G' H' s rv=>?_⟩;exact⟨v,r'.any,k,rfl,rv.any s.sub,ek,q _ G' H' s (by show Rep _ _ _ _;unfold Rep;rfl)⟩
 ·cases e
theorem rP{p p2:Pos}(hm:X.mg "isinstance" = none)(Gh:X.mg "bool" = none)(ha:PX X a fa)(hg:Gl X "isinstance":=by rfl)(Gf:Gl X "bool":=by rfl) (he:starEach [a,.Name "bool" p2] X.env=(false,eval a X.env)::starEach [.Name "bool" p2] X.env:=by rfl) (F2:starEach [.Name "bool" p2] X.env=(false,eval (.Name "bool" p2) X.env)::starEach [] X.env:=by rfl) (B7:(backTo pos (starEach [.Name "bool" p2] X.env)).any (·.1)=false:=by rfl) : PX X (.Call (.Name "isinstance" p) [a,.Name "bool" p2] [] pos) (IA "bool" fa):=
 Uc (λ_=>⟨rfl,rfl⟩) (λz=>absurd z (by decide)) (λz=>absurd z (by decide)) (λz=>absurd z (by decide)) hm Gh fu ha hg Gf (by decide) (by decide) he F2 B7
theorem rQ{p p2:Pos}(hm:X.mg "isinstance" = none)(Gh:X.mg "int" = none)(ha:PX X a fa)(hg:Gl X "isinstance":=by rfl)(Gf:Gl X "int":=by rfl) (he:starEach [a,.Name "int" p2] X.env=(false,eval a X.env)::starEach [.Name "int" p2] X.env:=by rfl) (F2:starEach [.Name "int" p2] X.env=(false,eval (.Name "int" p2) X.env)::starEach [] X.env:=by rfl) (B7:(backTo pos (starEach [.Name "int" p2] X.env)).any (·.1)=false:=by rfl) : PX X (.Call (.Name "isinstance" p) [a,.Name "int" p2] [] pos) (IA "int" fa):=
 Uc (λz=>absurd z (by decide)) (λ_=>⟨rfl,rfl⟩) (λz=>absurd z (by decide)) (λz=>absurd z (by decide)) hm Gh fv ha hg Gf (by decide) (by decide) he F2 B7
end
section
variable{X:Cx}{Av Ao:Hp}{a b c e:Expr}{es:List Expr}{fa fb f:EF}{ga:AF}{pos:Pos}
def Ra(a:Addr)(n:Nat):HO:=.ext λh=>∃o es ep t,h.get? a=some o/\o.ExactSet/\o.data=.set es ep t/\t.fits es.size=true/\es.size=n/\n<=1000
theorem si{P:Program}{w:World}{H:Hp}{h:Heap}{a:Addr}{ks:List (List Int)}(x:_root_.ST.Hm P w h a ks)(hz:ks.length<=1000):Dg P w H h a (Ra a ks.length):=by
 obtain⟨o,es,ep,t,kk,ho,hex,hd,T,hp⟩:=x;refine⟨⟨o,es,ep,t,ho,hex,hd,T.fits,?_,hz⟩,⟨o,ho⟩,?_⟩
 ·rw[<-T.len,hp.length_eq]
 ·rintro h1 h2 ⟨o,es,ep,t,e1,e2⟩ k;exact⟨o,es,ep,t,k o e1,e2⟩
def TupAt(K:W.Frag)(H:Hp)(v:V)(ks:List Int):Prop:=∃a,v=.ref a/\DV K H a (ks.map V.int)
theorem ZK{P:Program}{w:World}:∀{ks:List Int}{us:List Value},BA (ks.map V.int) us->ItemsAre (intKind P w) ks us
 |[],us,r=>by rw[List.map_nil]at r;cases r;exact .nil
 |k::ks,us,r=>by
  rw[List.map_cons]at r;cases r with
  |cons r1 r2=>
   obtain⟨t,rfl⟩:=r1;exact .cons (by show Value.isInt k (.int k t)=true;simp[Value.isInt]) (ZK r2)
theorem gP(hc:X.calm=true)(hu:X.A.units+64<cLine):EO X (.type "set") (λxs H Q=>∃(p:Addr)(vs:List V)(kks:List (List Int)),xs=[.ref p]/\Rd H p (.lst vs)/\Paired (λk v=>TupAt X.K H v k) kks vs/\kks.length<=17/\∀d,H d=none->Q (.ref d) (upd H d (Ra d (_root_.ST.EN [] kks).length))):=by
 intro AH s σ H xs us Q I r h;obtain⟨p,vs,kks,rfl,hq,hp,hz,q⟩:=h;obtain⟨u,rfl,rx⟩:=vals1 r;cases rx;obtain⟨z,its,n,rv,e⟩:=hq.ok I.A2;have hl:s.heap.IsList p its.toArray:=⟨_,e,rfl,n,rfl⟩;have HW:kks.length=vs.length:=Paired.length hp;have KP:vs.length=its.length:=rv.length;refine _root_.ST.gQ (kks:=kks) (I.ok.hd hc) (by omega) hl (by rw[List.size_toArray];omega) (by rw[List.size_toArray];omega) (λj v hj=>?_) λh' tk hS hk=>?_
 ·have Cz:its[j]? = some v:=by simpa using hj
  obtain⟨x,ex,rx⟩:=UX (F:=RelV) rv Cz;obtain⟨k,ek,a,rfl,ha⟩:=UX hp ex;cases rx;obtain⟨IG,r9,⟨o,ho,Pd,n2,hd⟩,_⟩:=I.tuple ha;exact⟨k,a,ek,rfl,o,IG.toArray,n2,ho,Pd,hd,by simpa using ZK r9⟩
 ·have hn:H s.heap.objs.size=none:=I.A2.fresh (Nat.le_refl _);have hle:=_root_.ST.dF kks [];refine⟨.ref s.heap.objs.size,_,I.laid (t':=tk) hk (Nat.le_refl _) (si hS ?_),rfl,q _ hn⟩;simp at hle;omega
theorem gN:EO X (.builtin "len") (λxs H Q=>∃(p:Addr)(n:Nat),xs=[.ref p]/\H p=some (Ra p n)/\Q (.int n) H):=by
 intro AH s σ H xs us Q I r h;obtain⟨p,n,rfl,hq,q⟩:=h;obtain⟨u,rfl,rx⟩:=vals1 r;cases rx;obtain⟨⟨o,es,ep,t,ho,hex,hd,hf,hn,hz⟩,_⟩:=I.A2 p _ hq;exact call_len_set ho hex hd hf (by rw[hn];omega) ⟨.int n,H,I.tok _,⟨s.toks+1,by rw[hn]⟩,q⟩
def Jg:List PV->Option (List (List Int))
 |[]=>some []
 |.tup xs::r=>match E8 xs,Jg r with|some k,some ks=>some (k::ks)|_,_=>none
 |_=>none
theorem dA{K:W.Frag}{G H:Hp}(s:A4 G H):∀{ps:List PV}{vs:List V}{ks:List (List Int)},Jg ps=some ks->AX K G ps vs->Paired (λk v=>TupAt K H v k) ks vs
 |[],vs,ks,e,h=>by cases e;unfold AX at h;subst h;exact .nil
 |.tup xs::r,vs,ks,e,h=>by
  unfold Jg at e;split at e
  ·rename_i k xr e1 e2;cases e;unfold AX at h;obtain⟨v,us,rfl,hv,t⟩:=h;unfold Rep at hv;obtain⟨a,ws,rfl,hq,rl⟩:=hv;rw[NZ e1 rl]at hq;exact .cons ⟨a,rfl,DV.same s hq⟩ (dA s e2 t)
  ·cases e
 |.Bq::_,_,_,e,_=>by cases e
 |.bl _::_,_,_,e,_=>by cases e
 |.int _::_,_,_,e,_=>by cases e
 |.str _::_,_,_,e,_=>by cases e
 |.lst _::_,_,_,e,_=>by cases e
 |.rd _::_,_,_,e,_=>by cases e
 |.Fz _ _::_,_,_,e,_=>by cases e
def J7(f:EF):EF:=λρ=>match f ρ with
 |some r=>(match r.list.bind Jg with|some ks=>if ks.length<=17 then some (.cl (.int (_root_.ST.EN [] ks).length))else none|none=>none)
 |none=>none
theorem bF{p p2 QS:Pos}(hc:X.calm=true)(hm:X.mg "len" = none)(Gh:X.mg "set" = none)(hu:X.A.units+64<cLine)(ha:PX X a fa)(hg:Gl X "len":=by rfl)(Gf:Gl X "set":=by rfl) (F2:starEach [a] X.env=(false,eval a X.env)::starEach [] X.env:=by rfl) (lT:(backTo QS (starEach [] X.env)).any (·.1)=false:=by rfl) (he:starEach [.Call (.Name "set" p2) [a] [] QS] X.env=(false,eval (.Call (.Name "set" p2) [a] [] QS) X.env)::starEach [] X.env:=by rfl) (B7:(backTo pos (starEach [] X.env)).any (·.1)=false:=by rfl) : PX X (.Call (.Name "len" p) [.Call (.Name "set" p2) [a] [] QS] [] pos) (J7 fa):=by
 refine PE.imp (QQ gN hg hm PySem.boot_len (Ke (ab (gP hc hu) Gf Gh f6 (Ke ha Nw F2) (by decide) (by decide) F2 lT) Nw he) (by decide) (by decide) he B7) λσ H Q ⟨G,ρ,r,R,e,q⟩=>?_;unfold J7 at e;split at e
 ·rename_i r' er;split at e
  ·rename_i ks ek;split at e
   ·rename_i hz;cases e;cases el:r'.list with
    |none=>rw[el]at ek;cases ek
    |some ps=>
     rw[el,Option.bind_some]at ek;refine⟨G,ρ,r',R,er,λv G' H' s rv=>?_⟩;obtain⟨d,vs,rfl,hq,rl⟩:=rv.list s.sub el;refine⟨d,vs,ks,rfl,hq,dA s.sub ek rl,hz,λx hx=>?_⟩;refine⟨x,_,rfl,Fm,q _ G' _ (s.trans (A9.JR s.sub _ hx)) ?_⟩;show Rep _ _ _ _;unfold Rep
     rfl
   ·cases e
  ·cases e
 ·cases e
end
section
variable{X:Cx}{Av Ao:Hp}{a b c e:Expr}{es:List Expr}{fa fb f:EF}{ga:AF}{pos:Pos}
def HR(i j:Nat)(ga:AF):SF:=λρ=>match ga ρ with
 |some rs=>(match DW rs with|some [p,q]=>some (.nx ((ρ.set i (some (.im p))).set j (some (.im q))))|_=>none)
 |none=>none
theorem Ud(i j:Nat){x y:Str}{px py pt:Pos}{kt k2 Kg}(hc:X.calm=true)(hN:X.N.Nodup)(ha:Dr X [a,b] ga)(hi:X.N[i]? = some x:=by rfl)(hj:X.N[j]? = some y:=by rfl)(Cg:i≠j:=by decide) (hx:X.env.scope.names.lookup x=some .local:=by rfl) (hy:X.env.scope.names.lookup y=some .local:=by rfl) (hw:swappedStores [.Tuple [.Name x px,.Name y py] kt pt] (.Tuple [a,b] k2 Kg) X.env=pure (some [x,y]):=by rfl) (hs:swapsWithSole [.Tuple [.Name x px,.Name y py] kt pt] (.Tuple [a,b] k2 Kg) pos.line X.env=pure false:=by rfl) : Eg X Av Ao (.Assign [.Tuple [.Name x px,.Name y py] kt pt] (.Tuple [a,b] k2 Kg) pos) (HR i j ga):=PS.imp (qw hc hN hi hj Cg hx hy ha hw hs) λD σ H ⟨G,ρ,o,S,e,k⟩=>by
 unfold HR at e;split at e
 ·rename_i rs er;split at e
  ·rename_i p q ec;cases e;refine⟨G,ρ,rs,S.r,er,λvs G' H' s rv=>?_⟩;have rl:=Jx s.sub rv ec;unfold AX at rl;obtain⟨v,r,rfl,rp,rl⟩:=rl;unfold AX at rl;obtain⟨w,r,rfl,rq,rl⟩:=rl;unfold AX at rl;subst rl;have S':=S.step s.all;have S1:=S'.turn (S'.r.IS (i:=i) rp) ER.IS;have S2:=S1.turn (S1.r.IS (i:=j) rq) ER.IS;exact⟨v,w,rfl,k _ _ _ s.all.gg S2⟩
  ·cases e
 ·cases e
def Lc(f:EF):SF:=λρ=>match f ρ with|some _=>some (.nx ρ)|none=>none
theorem bJ(he:PX X e f)(IE:swapsWith e none pos.line X.env=pure false:=by rfl):Eg X Av Ao (.Expr e pos) (Lc f):=PS.imp (UZ he IE) λD σ H ⟨G,ρ,o,S,er,k⟩=>by
 unfold Lc at er;split at er
 ·rename_i r eq;cases er;exact⟨G,ρ,r,S.r,eq,λv G' H' s rv=>k _ _ _ s.gg (S.step s)⟩
 ·cases er
end
section
variable{X:Cx}{Av Ao:Hp}{a b c d e:Expr}{es:List Expr}{fa fb fc fd f:EF}{ga:AF}{pos:Pos}
def Vg(r r' GI:R2)(ta tb tc td:TE):TE:=λσ H Q=>ta σ H λx H1=>tb σ H1 λy H2=>r x y H2 λz H3=>∃k,z=.bl k/\
 (if k=true then tc σ H3 λw H4=>r' y w H4 λz' H5=>∃k',z'=.bl k'/\(if k'=true then td σ H5 λw' H6=>GI w w' H6 Q else Q (.bl false) H5)else Q (.bl false) H3)
theorem qI{ta tb tc td:TE}{op Ca Er:CmpOp}{r r' GI:R2}(ho:B3 X (compareOp op) r)(CY:B3 X (compareOp Ca) r')(KQ:B3 X (compareOp Er) GI)(ha:PE X a ta)(hb:PE X b tb)(hc:PE X c tc)(hd:PE X d td) (hm:lastMarks [op,Ca,Er] [b,c,d]=false:=by with_unfolding_all rfl):PE X (.Compare a [op,Ca,Er] [b,c,d] pos) (Vg r r' GI ta tb tc td):=by
 intro AH s σ H Q I h;refine Compare_chain (Au (ha AH s σ H _ I h) λv s1 ⟨x,H1,I1,r1,q1⟩=>chain_link (Au (hb AH s1 σ H1 _ I1 q1) λu s2 ⟨y,H2,I2,r2,q2⟩=>
  Au (ho AH s2 σ H2 x y v u _ I2 r1 r2 q2) λd s3 ⟨z,H3,I3,r3,k,e,q3⟩=>?_)) hm
 subst e;cases r3;refine wpAny_truthy_bool ?_;cases k with
 |false=>exact ite_ff ⟨.bl false,H3,I3,rfl,q3⟩
 |true=>
  refine ite_tt (chain_link (Au (hc AH s3 σ H3 _ I3 q3) λw' s4 ⟨z',H4,I4,r4,q4⟩=>Au (CY AH s4 σ H4 y z' u w' _ I4 r2 r4 q4) λd' s5 ⟨z2,H5,I5,r5,k2,e2,q5⟩=>?_));subst e2;cases r5;refine wpAny_truthy_bool ?_;cases k2 with
  |false=>exact ite_ff ⟨.bl false,H5,I5,rfl,q5⟩
  |true=>exact ite_tt (chain_last (Au (hd AH s5 σ H5 _ I5 q5) λw2 s6 ⟨z3,H6,I6,r6,q6⟩=>KQ AH s6 σ H6 z' z3 w' w2 Q I6 r4 r6 q6))
theorem rA{ta tb tc td:TE}{op Ca Er:CmpOp}{r r' GI:R2}(ho:B3 X (compareOp op) r)(CY:B3 X (compareOp Ca) r')(KQ:B3 X (compareOp Er) GI)(ha:PE X a ta)(hb:PE X b tb)(hc:PE X c tc)(hd:PE X d td) (hm:lastMarks [op,Ca,Er] [b,c,d]=false:=by with_unfolding_all rfl):PT X (.Compare a [op,Ca,Er] [b,c,d] pos) (Vi (Vg r r' GI ta tb tc td)):=by
 intro AH s σ H Q I h;refine isTrue_chain (Au (ha AH s σ H _ I h) λv s1 ⟨x,H1,I1,r1,q1⟩=>test_link (Au (hb AH s1 σ H1 _ I1 q1) λu s2 ⟨y,H2,I2,r2,q2⟩=>
  Au (ho AH s2 σ H2 x y v u _ I2 r1 r2 q2) λd s3 ⟨z,H3,I3,r3,k,e,q3⟩=>?_)) hm
 subst e;cases r3;refine wpAny_truthy_bool ?_;cases k with
 |false=>
  obtain⟨k',e',q'⟩:=q3;cases e';exact ite_ff ⟨H3,I3,q'⟩
 |true=>
  refine ite_tt (test_link (Au (hc AH s3 σ H3 _ I3 q3) λw' s4 ⟨z',H4,I4,r4,q4⟩=>Au (CY AH s4 σ H4 y z' u w' _ I4 r2 r4 q4) λd' s5 ⟨z2,H5,I5,r5,k2,e2,q5⟩=>?_));subst e2;cases r5;refine wpAny_truthy_bool ?_;cases k2 with
  |false=>
   obtain⟨k',e',q'⟩:=q5;cases e';exact ite_ff ⟨H5,I5,q'⟩
  |true=>
   refine ite_tt (test_last (Au (hd AH s5 σ H5 _ I5 q5) λw2 s6 ⟨z3,H6,I6,r6,q6⟩=>Au (KQ AH s6 σ H6 z' z3 w' w2 _ I6 r4 r6 q6) λd2 s7 ⟨z4,H7,I7,r7,k3,e3,q7⟩=>?_));subst e3;cases r7;exact wpAny_truthy_bool ⟨H7,I7,q7⟩
def EW(k k' Hb:RV->RV->Option RV)(fa fb fc fd:EF):EF:=λρ=>match fa ρ,fb ρ with
 |some x,some y=>match k x y with
  |some (.cl (.bl true))=>(match fc ρ with
   |some z=>(match k' y z with
    |some (.cl (.bl true))=>(match fd ρ with|some w=>Hb z w|none=>none)
    |some (.cl (.bl false))=>some (.cl (.bl false))
    |_=>none)
   |none=>none)
  |some (.cl (.bl false))=>some (.cl (.bl false))
  |_=>none
 |_,_=>none
theorem c6{K:W.Frag}{k k' Hb:RV->RV->Option RV}{r r' GI:R2}(hk:Dq K k r)(CC:Dq K k' r')(NJ:Dq K Hb GI){σ:St}{H:Hp}{Q:VK}(h:tX K (EW k k' Hb fa fb fc fd) σ H Q):Vg r r' GI (tX K fa) (tX K fb) (tX K fc) (tX K fd) σ H Q:=by
 obtain⟨G,ρ,z,R,e,q⟩:=h;unfold EW at e;split at e
 ·rename_i x y ea eb;refine⟨G,ρ,x,R,ea,λvx G1 H1 s1 rx=>⟨G1,ρ,y,R.step s1,eb,λvy G2 H2 s2 ry=>?_⟩⟩;split at e
  ·rename_i ek;cases ec:fc ρ with
   |none=>rw[ec]at e;cases e
   |some w=>
    rw[ec]at e;dsimp only at e;refine hk x y _ H G2 H2 vx vy _ s2.sub (s1.hh.trans s2.hh) ek (rx.step s2) (ry.back s1.hh) λv G3 H3 s3 rv=>⟨true,rv.bl,?_⟩;refine HZ ?_;have FG:=(s1.trans s2).trans s3;refine⟨G3,ρ,w,R.step FG,ec,λvw G4 H4 s4 Fe=>?_⟩;split at e
    ·rename_i Sl;cases ed:fd ρ with
     |none=>rw[ed]at e;cases e
     |some w2=>
      rw[ed]at e;dsimp only at e;refine CC y w _ H G4 H4 vy vw _ s4.sub (FG.trans s4).hh Sl ((ry.back s1.hh).step (s3.trans s4)) (Fe.back FG.hh) λv5 G5 H5 s5 Up=>⟨true,Up.bl,?_⟩;refine HZ ?_;have GK:=(FG.trans s4).trans s5;refine⟨G5,ρ,w2,R.step GK,ed,λvH G6 H6 s6 sD=>?_⟩;exact NJ w w2 z H G6 H6 vw vH Q s6.sub (GK.trans s6).hh e ((Fe.back FG.hh).step (s5.trans s6)) (sD.back GK.hh) λv7 G7 H7 s7 sC=>q v7 G7 H7 ((GK.trans s6).trans s7) sC
    ·rename_i Sl;cases e;refine CC y w _ H G4 H4 vy vw _ s4.sub (FG.trans s4).hh Sl ((ry.back s1.hh).step (s3.trans s4)) (Fe.back FG.hh) λv5 G5 H5 s5 Up=>⟨false,Up.bl,?_⟩;refine HY ?_;exact q _ G5 H5 ((FG.trans s4).trans s5) (by show Rep _ _ _ _;unfold Rep;rfl)
    ·cases e
  ·rename_i ek;cases e;refine hk x y _ H G2 H2 vx vy _ s2.sub (s1.hh.trans s2.hh) ek (rx.step s2) (ry.back s1.hh) λv G3 H3 s3 rv=>⟨false,rv.bl,?_⟩;refine HY ?_;exact q _ G3 H3 ((s1.trans s2).trans s3) (by show Rep _ _ _ _;unfold Rep;rfl)
  ·cases e
 ·cases e
theorem QU{op Ca Er:CmpOp}{k k' Hb:RV->RV->Option RV}(h1:DO X op k)(h2:DO X Ca k')(h3:DO X Er Hb)(ha:PX X a fa)(hb:PX X b fb)(E6:PX X c fc)(hd:PX X d fd)(hm:lastMarks [op,Ca,Er] [b,c,d]=false:=by with_unfolding_all rfl) : PX X (.Compare a [op,Ca,Er] [b,c,d] pos) (EW k k' Hb fa fb fc fd):=by
 obtain⟨r,ho,hk⟩:=h1.ex;obtain⟨r',CY,CC⟩:=h2.ex;obtain⟨GI,KQ,NJ⟩:=h3.ex;exact PE.imp (qI ho CY KQ ha hb E6 hd hm) λ_ _ _ h=>c6 hk CC NJ h
theorem bN{op Ca Er:CmpOp}{k k' Hb:RV->RV->Option RV}(h1:DO X op k)(h2:DO X Ca k')(h3:DO X Er Hb)(ha:PX X a fa)(hb:PX X b fb)(E6:PX X c fc)(hd:PX X d fd)(hm:lastMarks [op,Ca,Er] [b,c,d]=false:=by with_unfolding_all rfl) : Eh X (.Compare a [op,Ca,Er] [b,c,d] pos) (AS (EW k k' Hb fa fb fc fd)):=by
 obtain⟨r,ho,hk⟩:=h1.ex;obtain⟨r',CY,CC⟩:=h2.ex;obtain⟨GI,KQ,NJ⟩:=h3.ex;exact PT.imp (rA ho CY KQ ha hb E6 hd hm) λ_ _ _ h=>c6 hk CC NJ (Q9 h)
def Ka(x y:RV):Option RV:=match x,y with
 |.cl (.bl p),.cl (.bl q)=>some (.cl (.bl (!(p==q))))
 |_,_=>none
theorem pY:B3 X (compareOp .IsNot) (λx y H Q=>∃p q,x=.bl p/\y=.bl q/\Q (.bl (!(p==q))) H):=by
 intro AH s σ H x y v u Q I rx ry h;obtain⟨p,q,rfl,rfl,k⟩:=h;cases rx;cases ry;refine wpAny_isNot_plain (by cases p<;>cases q<;>rfl) ⟨.bl _,H,I,?_,k⟩;cases p<;>cases q<;>rfl
theorem pO{K:W.Frag}:Dq K Ka (λx y H Q=>∃p q,x=.bl p/\y=.bl q/\Q (.bl (!(p==q))) H):=by
 intro x y z H0 G H vx vy Q sub sh e rx ry q;unfold Ka at e;split at e
 ·rename_i p q';cases e;exact⟨p,q',rx.bl,ry.bl,q _ G H (A9.refl sub) (by show Rep _ _ _ _;unfold Rep;rfl)⟩
 ·cases e
theorem gc:DO X .IsNot Ka:=⟨_,pY,pO⟩
noncomputable def HK(h:Heap)(dx:PyData)(u:Value):Bool:=@decide (∃(dd:PyData)(as:List Addr),Reads h u dd as/\dd.canLay0=true/\PyData.eqv dd dx=true) (Classical.propDecidable _)
theorem Xt{h:Heap}{dx dd:PyData}{u:Value}{as:List Addr}(r:Reads h u dd as)(hc:dd.canLay0=true):HK h dx u=PyData.eqv dd dx:=by
 unfold HK;cases he:PyData.eqv dd dx with
 |true=>exact @decide_eq_true _ (Classical.propDecidable _) ⟨dd,as,r,hc,he⟩
 |false=>
  refine @decide_eq_false _ (Classical.propDecidable _) ?_;rintro⟨d',fW,r',_,e'⟩;have:=SeqAt.Reads.unique dd d' u as fW hc r r';subst this;rw[he]at e';cases e'
def inD(ps:List PV)(x:PV):Bool:=ps.any λp=>PyData.eqv (A1 p) (A1 x)
def bQ(K:W.Frag)(neg:Bool):R2:=λx y H Q=>∃(px:PV)(ps:List PV)(vs:List V)(p:Addr),y=.ref p/\(DH K H p vs\/DV K H p vs)/\AX K H ps vs/\Rep K H px x/\SeqAt.shaped (A1 px)=true/\(∀p∈ps,SeqAt.shaped (A1 p)=true)/\Q (.bl (if neg=true then !inD ps px else inD ps px)) H
theorem Rg{AH:List (Addr×Obj)}{σ:St}{H:Hp}{s:Shared}(I:Inv X AH σ H s){dx:PyData}:∀{ps:List PV}{vs:List V}{us:List Value},AX X.K H ps vs->BA vs us->(∀p∈ps,SeqAt.shaped (A1 p)=true)->us.any (HK s.heap dx)=ps.any λp=>PyData.eqv (A1 p) dx
 |[],vs,us,h,r,_=>by unfold AX at h;subst h;cases r;rfl
 |p::ps,vs,us,h,r,hs=>by
  unfold AX at h;obtain⟨v,vr,rfl,hv,hr⟩:=h;cases r with
  |cons r1 r2=>
   obtain⟨as,ra⟩:=Rep.reads I (SeqAt.canLay_of_shaped (hs p List.mem_cons_self)) hv r1;rw[List.any_cons,List.any_cons,Xt ra (SeqAt.canLay_of_shaped (hs p List.mem_cons_self)),Rg I hr r2 λq hq=>hs q (List.mem_cons_of_mem _ hq)]
theorem UJ{AH:List (Addr×Obj)}{σ:St}{H:Hp}{s:Shared}(I:Inv X AH σ H s)(hu:X.A.units+66<cLine){px:PV}{vx:V}{ux:Value}(hx:Rep X.K H px vx)(rx:RelV vx ux)(sx:SeqAt.shaped (A1 px)=true):∀{ps:List PV}{vs:List V}{us:List Value},AX X.K H ps vs->BA vs us->(∀p∈ps,SeqAt.shaped (A1 p)=true)->∀u∈us,SeqAt.EqAt X.A.in1 s u ux (HK s.heap (A1 px) u)
 |[],vs,us,h,r,_=>by unfold AX at h;subst h;cases r;intro u hu;cases hu
 |p::ps,vs,us,h,r,hs=>by
  unfold AX at h;obtain⟨v,vr,rfl,hv,hr⟩:=h;cases r with
  |cons r1 r2=>
   intro u hm;rcases List.mem_cons.mp hm with rfl|hm
   ·have sp:=hs p List.mem_cons_self;obtain⟨as,ra⟩:=Rep.reads I (SeqAt.canLay_of_shaped sp) hv r1;obtain⟨bs,rb⟩:=Rep.reads I (SeqAt.canLay_of_shaped sx) hx rx;rw[Xt ra (SeqAt.canLay_of_shaped sp)];exact SeqAt.eqAt_reads _ _ _ _ _ _ as bs ra rb (SeqAt.canLay_of_shaped sp) (SeqAt.canLay_of_shaped sx) (SeqAt.room_of_shaped sp (by show X.A.units+1+64<cLine;omega))
   ·exact UJ I hu hx rx sx hr r2 (λq hq=>hs q (List.mem_cons_of_mem _ hq)) u hm
theorem pz(hu:X.A.units+66<cLine):B3 X (compareOp .NotIn) (bQ X.K true):=by
 intro AH s σ H x y v u Q I rx ry h;obtain⟨px,ps,vs,p,rfl,hq,rl,hx,sx,ss,q⟩:=h;cases ry;rcases hq with hq|hq
 ·obtain⟨its,r,pl,hz⟩:=I.list hq;refine SeqAt.notIn_listAt (HK s.heap (A1 px)) pl.isList (λw hw=>UJ I hu hx rx sx rl r ss w (by simpa using hw)) ⟨.bl _,H,I,rfl,?_⟩;rw[show its.toArray.any (HK s.heap (A1 px))=its.any (HK s.heap (A1 px))by simp,Rg I rl r ss];exact q
 ·obtain⟨its,r,pl,hz⟩:=I.tuple hq;refine SeqAt.notIn_tupleAt (HK s.heap (A1 px)) pl (λw hw=>UJ I hu hx rx sx rl r ss w (by simpa using hw)) ⟨.bl _,H,I,rfl,?_⟩;rw[show its.toArray.any (HK s.heap (A1 px))=its.any (HK s.heap (A1 px))by simp,Rg I rl r ss];exact q
def cE(ps:List PV):Bool:=ps.all λp=>SeqAt.shaped (A1 p)
def IH(neg:Bool)(x y:RV):Option RV:=match y.seq with
 |some ps=>if SeqAt.shaped (A1 x.any)=true/\cE ps=true then some (.cl (.bl (if neg=true then !inD ps x.any else inD ps x.any)))else none
 |none=>none
theorem pN{K:W.Frag}{neg:Bool}:Dq K (IH neg) (bQ K neg):=by
 intro x y z H0 G H vx vy Q sub sh e rx ry q;unfold IH at e;split at e
 ·rename_i ps es;split at e
  ·rename_i hs;cases e;obtain⟨a,vs,rfl,hq,rl⟩:=ry.seq sub es;refine⟨x.any,ps,vs,a,rfl,hq,AX.same sub rl,rx.any sub,hs.1,λp hp=>List.all_eq_true.mp hs.2 p hp,q _ G H (A9.refl sub) ?_⟩;show Rep _ _ _ _;unfold Rep
   rfl
  ·cases e
 ·cases e
theorem Wr(hu:X.A.units+66<cLine):DO X .NotIn (IH true):=⟨_,pz hu,pN⟩
end
theorem u5{k:Nat}{A:Around}(r:DG k A):A.units+66<cLine:=by have:=r.un;omega
inductive xG where
 |o (x:Out)|ex (nm:Str)
section
variable{X:Cx}{E:XK}{Av Ao:Hp}{a b c e tg iter:Expr}{es:List Expr}{fa fb fc f:EF}{ga:AF}{t:BF}{pos:Pos}{st:Stmt}{Bh body Sn:List Stmt}{g h:YF}
end
section
variable{X:Cx}{Av Ao:Hp}{a b e:Expr}{es:List Expr}{fa fb f:EF}{ga:AF}{pos:Pos}
end
section
variable{X:Cx}{E:XK}{Av Ao:Hp}{a b e:Expr}{es:List Expr}{fa fb f:EF}{ga:AF}{pos:Pos}
end
section
variable{X:Cx}{E:XK}{Av Ao:Hp}{a b e:Expr}{es:List Expr}{fa fb f:EF}{ga:AF}{pos:Pos}
end
section
variable{K:W.Frag}{G:Hp}
end
section
variable{X:Cx}{a b c e tg iter:Expr}{es:List Expr}{fa fb fc f:EF}{g ga:AF}{pos:Pos}{Av Ao:Hp}
def rW:V->List V->Hp->VK->Prop:=λx vs H Q=>∃l b xs zs,x=.ref l/\vs=[.ref b]/\H l=some (.lst xs)/\Rd H b (.lst zs)/\xs.length+zs.length<=sizeLine/\Q .Bq (upd H l (.lst (xs++zs)))
theorem nq:WH X "list.extend" rW:=by
 intro AH s σ H x vs v us Q I rx rv h;obtain⟨l,b,xs,zs,rfl,rfl,hH,hB,hz,q⟩:=h;cases rx;obtain⟨u,rfl,ru⟩:=rv.one;cases ru;obtain⟨z,its,n,r,hl,e⟩:=I.Zu hH;obtain⟨z2,IG,n2,r2,e2⟩:=hB.ok I.A2;have KP:=r2.length;have Eo:its.toArray.size+IG.toArray.size<=sizeLine:=by rw[List.size_toArray,List.size_toArray];omega
 have lE:¬ (!its.toArray.isEmpty&&Builtin.List.listTooLong (its.toArray.size+IG.toArray.size))=true:=by
  rw[oB Eo,Bool.and_false];exact Bool.false_ne_true
 refine call_meets F.slot_list_extend ⟨_,e,rfl⟩ F.entry_list_extend (F.args_list_extend_2 _ _) (AutoSeq1.list_extend_list_list_0 l its.toArray n b IG.toArray n2 lE (by rw[List.size_toArray];omega) (by omega)) ⟨e,e2,?_⟩
 refine⟨.Bq,_,I.Zt (its':=its++IG) hH e (by simp) (r.append r2) ?_,rfl,q⟩;rw[List.length_append];omega
def Ll(ps qs:List PV):Option (List PV):=match qs with|[.lst zs]=>if ps.length+zs.length<=1000 then some (ps++zs)else none|_=>none
theorem rT(i:Nat){x:Str}{p ap C2:Pos}(ha:Dr X (e::es) ga)(hN:X.N[i]? = some x:=by rfl)(hv:Ia X.env.scope x:=by first|exact Or.inl rfl|exact Or.inr (Or.inl rfl)|exact Or.inr (Or.inr rfl))(hd:(x==("__debug__" : Str))=false:=by decide) (C3:(x==("__classdict__" : Str))=false:=by decide) (NB:attributeBase (.Name x p) "extend" X.env (eval (.Name x p) X.env)=eval (.Name x p) X.env:=by rfl) (JB:((backTo C2 (starEach (e::es) X.env)).all (λx=>!x.1)&&(backToKw C2 (keywordEach [] X.env)).all (λx=>x.1.isSome)
  && decide ((e::es).length+([]:List Keyword).length+(if([]:List Keyword).isEmpty then 0 else 1)<30))=true:=by rfl)
 (NM:(ap.endLine==C2.line)=true:=by rfl) (hs:starEach (e::es) X.env=(false,eval e X.env)::starEach es X.env:=by rfl) (NS:(backTo C2 (starEach es X.env)).any (·.1)=false:=by rfl)
 (IE:swapsWith (.Call (.Attribute (.Name x p) "extend" ap) (e::es) [] C2) none pos.line X.env=pure false:=by rfl) :
 Eg X Av Ao (.Expr (.Call (.Attribute (.Name x p) "extend" ap) (e::es) [] C2) pos) (Cy i Ll ga):=
 PS.imp (UZ (aZ PySem.F.plainAttrs_list PySem.F.slot_list_extend PySem.F.type_list_extend nq (Nx (i:=i) hN hv hd C3) ha NB JB NM hs NS) IE) λD σ H ⟨G,ρ,o,S,e,ok⟩=>by
 unfold Cy at e;split at e
 ·rename_i ps rs er ea;split at e
  ·rename_i qs ec;split at e
   ·rename_i Es ek;cases e;obtain⟨v,ev,a,vs,rfl,g,ha,rl⟩:=S.r.slot i _ er;refine⟨_,ev,.inl ⟨rfl,vs,.inl (.inl ha)⟩,G,ρ,rs,S.r,ea,λus G1 H1 s1 rv=>?_⟩;have S1:=S.step s1.all;have rq:=Jx s1.sub rv ec;have bf:=AX.same s1.all.gg rl;unfold Ll at ek;split at ek
    ·rename_i zs;split at ek
     ·rename_i hz;cases ek;unfold AX at rq;obtain⟨w,r,rfl,bw,rn⟩:=rq;unfold AX at rn;subst rn;unfold Rep at bw;obtain⟨b,ws,rfl,hq,rz⟩:=bw;have l1:=bf.len;have l2:=rz.len;refine⟨a,b,vs,ws,rfl,rfl,s1.hh _ _ ha,Rd.same s1.all.sub hq,small (by omega),?_⟩;exact ok _ _ _ s1.all.gg (S1.change er ev (s1.all.ex a (.l ha) g) (AX.of (L5 bf.paired rz.paired)))
     ·cases ek
    ·cases ek
   ·cases e
  ·cases e
 ·cases e
end
section
variable{Av Ao:Hp}
end
section
variable{X:Cx}{pos:Pos}{Av Ao:Hp}{f:Addr}{fd:FuncData}{ps:List Str}{k:Nat}{rec:Rec}
end
section
variable{X:Cx}{a:Expr}{es:List Expr}{f:EF}{g:AF}{pos:Pos}
end
theorem u4{k:Nat}{A:Around}(r:DG k A):A.units+1<cLine:=by have:=r.un;omega
open Classical in
section
variable{X:Cx}{e:Expr}{es:List Expr}{g:AF}{pos:Pos}
end
def RL(f:EF):Prop:=∀ρ r,f ρ=some r->r.flat=true
def Fp(g:SF):Prop:=∀ρ r,g ρ=some (.rt r)->r.flat=true
theorem J8{p:PV}(h:p.flat=true):RL (fC p):=λ_ _ e=>by cases e;exact h
theorem Iy{f:EF}(h:RL f):Fp (Al f):=λρ r e=>by
 unfold Al at e;split at e
 ·rename_i p ef;cases e;exact h ρ _ ef
 ·rename_i p ef;cases e;exact h ρ _ ef
 ·cases e
theorem My:Fp A8:=λρ r e=>by cases e
theorem Mz{g h:SF}(a:Fp g)(b:Fp h):Fp (AQ g h):=λρ r e=>by
 unfold AQ at e;split at e
 ·exact b _ _ e
 ·exact a _ _ e
theorem Mx{t:BF}{g h:SF}(a:Fp g)(b:Fp h):Fp (Ax t g h):=λρ r e=>by
 unfold Ax at e;split at e
 ·exact a _ _ e
 ·exact b _ _ e
 ·cases e
theorem S5{N n:Nat}{g:SF}(h:Fp g)(ps:List PV)(r:RV)(e:denote N n g ps=some r):r.flat=true:=by
 unfold denote at e;split at e
 ·cases eg:g (BX N ps)with
  |none=>rw[eg]at e;cases e
  |some o=>
   rw[eg]at e;cases o with
   |rt r'=>cases e;exact h _ _ eg
   |nx ρ=>cases e;rfl
   |bk ρ=>cases e
   |ct ρ=>cases e
 ·cases e
section
variable{X:Cx}{Av Ao:Hp}
end
def Lr(ps:List Str)(q:List Pos):Arguments:=⟨[],(ps.zip q).map λx=>⟨x.1,none,x.2⟩,none,[],[],none,[]⟩
theorem di{α β:Type}:∀(a:List α)(b:List β),b.length=a.length->(a.zip b).map (·.1)=a
 |[],_,_=>rfl
 |x::a,y::b,h=>by simp only[List.zip_cons_cons,List.map_cons];rw[di a b (by simpa using h)]
theorem YI{α β:Type}{f g:α->Option β}:∀l:List α,(∀x∈l,f x=g x)->l.filterMap f=l.filterMap g
 |[],_=>rfl
 |x::l,h=>by rw[List.filterMap_cons,List.filterMap_cons,h x (.head _),YI l λy hy=>h y (.tail _ hy)]
theorem Zq{α:Type}:∀(ps:List Str)(us:List α),us.length=ps.length->ps.Nodup->ps.filterMap (λn=>((ps.zip us).lookup n).map λx=>(n,x))=ps.zip us
 |[],_,_,_=>rfl
 |p::ps,u::us,h,nd=>by
  rw[List.nodup_cons]at nd;have ih:=Zq ps us (by simpa using h) nd.2;rw[List.zip_cons_cons,List.filterMap_cons_some (b:=(p,u)) (by simp[List.lookup_cons])]
  congr 1
  refine(YI _ λn hn=>?_).trans ih;rw[List.lookup_cons];split
  ·rename_i e;exact absurd (eq_of_beq e ▸ hn) nd.1
  ·rfl
theorem Zp{α:Type}:∀(ps:List Str)(us:List α),us.length=ps.length->∀n∈ps,((ps.zip us).lookup n).isNone=false
 |p::ps,u::us,h,n,hn=>by
  rw[List.zip_cons_cons,List.lookup_cons];split
  ·rfl
  ·rename_i e;refine Zp ps us (by simpa using h) n ?_;rcases List.mem_cons.1 hn with rfl|hn
   ·simp at e
   ·exact hn
theorem fi(nm:Str)(ps:List Str)(q:List Pos)(b:List Stmt)(sc:Scope)(kV doc pm:Value)(an:Option Addr)(Be ct:Value)(us:List Value)(hq:q.length=ps.length)(hu:us.length=ps.length)(nd:ps.Nodup):bindArgs (W.fnOf nm nm (Lr ps q) b sc .none kV doc pm an Be ct) ⟨us,[]⟩=pure (ps.zip us):=by
 have h1:((Lr ps q).args.map λx=>x.arg)=ps:=by
  unfold Lr;simp only[List.map_map];exact(List.map_congr_left λ_ _=>rfl).trans (di ps q hq)
 have hs:seqItems? Value.none=pure none:=rfl;have hf:ps.filter (λn=>((ps.zip us).lookup n).isNone)=[]:=List.filter_eq_nil_iff.2 λn hn=>by rw[Zp ps us hu n hn];simp
 unfold bindArgs W.fnOf;dsimp only;rw[h1];unfold Lr;simp[hs,hf,hu,Zq ps us hu nd]
structure FS(N P:List Str)(st:Stmt):Prop where
 sc:MX N P (Bg st)
 qs:∃q:List Pos,q.length=P.length/\Hw st=Lr P q
section
variable{N ps:List Str}{st:Stmt}{f:Addr}{fd:FuncData}{x:Str}{k:Nat}{g:SF}{y:YF}{P:Program}{w:World}{K:W.Frag}{mg:Str->Option Value}{base h:Heap}
theorem FS.nd(S:FS N ps st):N.Nodup:=S.sc.nd
theorem B2(h:(Bg st).kind=.function/\(Bg st).isCoroutine=false/\(Bg st).isGenerator=false/\N.Nodup/\N.take ps.length=ps/\(∀x∈ps,(Bg st).names.lookup x=some .local\/(Bg st).names.lookup x=some .cell)/\∀y∈(Bg st).names,y.2≠.free)(q:∃q:List Pos,q.length=ps.length/\Hw st=Lr ps q):FS N ps st:=
 ⟨⟨h.1,h.2.1,h.2.2.1,h.2.2.2.1,h.2.2.2.2.1,h.2.2.2.2.2.1,h.2.2.2.2.2.2⟩,q⟩
theorem FS.bs(S:FS N ps st)(kV doc pm:Value)(an:Option Addr)(Be ct:Value)(us:List Value)(hl:us.length=ps.length) : bindArgs (W.fnOf x x (Hw st) (Ga st) (Bg st) .none kV doc pm an Be ct) ⟨us,[]⟩=pure (ps.zip us):=by
 obtain⟨q,h1,h2⟩:=S.qs;rw[h2];exact fi x ps q _ _ kV doc pm an Be ct us h1 hl (S.sc.pre ▸ S.nd.sublist (List.take_sublist _ _))
def FM(K:W.Frag)(mg:Str->Option Value)(x:Str)(st:Stmt):Prop:=∃f fd,Fq K x x st f fd/\mg x=some (.ref f)
def dR(K:W.Frag)(x:Str)(st:Stmt):Prop:=∃(f:Addr)(oc:Value)(od:Option Addr)(kV doc pm:Value)(an:Option Addr)(Be ct:Value)(sl:Array (Option Value)),W.nsIn K mainGlobals x=some (some (.ref f))/\K.lookup f=some ⟨oc,od,.func (W.fnOf x x (Hw st) (Ga st) (Bg st) .none kV doc pm an Be ct),sl⟩/\W.codeIn K Be x=true/\W.keepIn K (.ref f)=true
theorem dmk{oc:Value}{od:Option Addr}{kV doc pm:Value}{an:Option Addr}{Be ct:Value}{sl:Array (Option Value)}(a:W.nsIn K mainGlobals x=some (some (.ref f)))(l:K.lookup f=some ⟨oc,od,.func (W.fnOf x x (Hw st) (Ga st) (Bg st) .none kV doc pm an Be ct),sl⟩)(c:W.codeIn K Be x=true)(k:W.keepIn K (.ref f)=true):dR K x st:=⟨_,_,_,_,_,_,_,_,_,_,a,l,c,k⟩
theorem B1(X:K.In h)(G:h.Ns mainGlobals mg)(d:dR K x st):FM K mg x st:=by
 obtain⟨f,oc,od,kV,doc,pm,an,Be,ct,sl,a,l,c,k⟩:=d;exact⟨f,_,jm l c k,W.mg_of X G a⟩
def bR(K:W.Frag):List Str->Prop
 |[]=>True
 |x::l=>W.nsIn K mainGlobals x=some none/\bR K l
def bM(mg:Str->Option Value):List Str->Prop
 |[]=>True
 |x::l=>mg x=none/\bM mg l
theorem WZ(X:K.In h)(G:h.Ns mainGlobals mg):∀{l:List Str},bR K l->bM mg l
 |[],_=>trivial
 |_::_,z=>⟨W.mg_none_of X G z.1,WZ X G z.2⟩
theorem Fq.bt(F:Fq K x x st f fd)(S:FS N ps st)(s:Shared)(us:List Value)(hl:us.length=ps.length):BindsTo s fd ⟨us,[]⟩ (ps.zip us):=by
 obtain⟨oc,od,kV,doc,pm,an,Be,ct,IK,rfl,lk,C3⟩:=F.ex;exact .of_eq (S.bs _ _ _ _ _ _ us hl)
theorem gL(F:Fq K x x st f fd)(S:FS N ps st) (hb:∀{Be:Value}{A:Around}{outer:List Env}{s:Shared}{H:Hp}{E:XK}{Av Ao:Hp},let B:=A.deeper (envOfC x (Bg st) s.heap.objs.size f Be);DG k B->B.units+64<cLine->B.units+1<cLine->B.units+66<cLine->true=true->GS (Hv Ez P w K mg base N x (Bg st) f Be A outer s H E).Kc Av Ao (Ga st) g) : Dp P w K mg base Ez (k+1) f fd ps (MD K ps.length (denote N.length ps.length g)):=jg F S.sc λ_ _ _ _ _ _ _ _ hr=>hb hr hr.units (u4 hr) (u5 hr) rfl
theorem gG(F:FM K mg x st)(S:FS N ps st) (hb:∀{f:Addr}{Be:Value}{A:Around}{outer:List Env}{s:Shared}{H:Hp}{E:XK}{Av Ao:Hp},let B:=A.deeper (envOfC x (Bg st) s.heap.objs.size f Be);DG k B->B.units+64<cLine->B.units+1<cLine->B.units+66<cLine->true=true->GS (Hv Ez P w K mg base N x (Bg st) f Be A outer s H E).Kc Av Ao (Ga st) g) : Ae P w K mg base x (k+1) ps.length (denote N.length ps.length g):=by
 obtain⟨f,fd,F,hm⟩:=F;exact⟨f,fd,ps,gL F S hb,hm,F.kp,F.binds S.bs,rfl⟩
end
section
variable{X:Cx}{a b c d:Expr}{p q r s:EF}
theorem Ak(ha:PX X a p)(h1:starEach [a] X.env=(false,eval a X.env)::starEach [] X.env:=by rfl):Dr X [a] (AD p AI):=DL ha IM h1
theorem Ap(ha:PX X a p)(hb:PX X b q)(h1:starEach [a,b] X.env=(false,eval a X.env)::starEach [b] X.env:=by rfl)(h2:starEach [b] X.env=(false,eval b X.env)::starEach [] X.env:=by rfl):Dr X [a,b] (AD p (AD q AI)):=DL ha (DL hb IM h2) h1
theorem Cp(ha:PX X a p)(hb:PX X b q)(hc:PX X c r)(h1:starEach [a,b,c] X.env=(false,eval a X.env)::starEach [b,c] X.env:=by rfl)(h2:starEach [b,c] X.env=(false,eval b X.env)::starEach [c] X.env:=by rfl)(h3:starEach [c] X.env=(false,eval c X.env)::starEach [] X.env:=by rfl):Dr X [a,b,c] (AD p (AD q (AD r AI))):=DL ha (Ap hb hc h2 h3) h1
theorem DY:∀ρ rs,AD p AI ρ=some rs->rs.length=1:=O7 jQ
theorem ln2:∀ρ rs,AD p (AD q AI) ρ=some rs->rs.length=2:=O7 DY
theorem C8:∀ρ rs,AD p (AD q (AD r AI)) ρ=some rs->rs.length=3:=O7 ln2
theorem Zr:∀ρ rs,AD p (AD q (AD r (AD s AI))) ρ=some rs->rs.length=4:=O7 C8
end
end L2.PL
namespace TL
open PySem PySem.Spec PyProof.Rows PySem.SeqAt
open PySem.AutoSeq1 (wpAny_loadPart')
section
variable{prog:Program}{w:World}{A:Around}{s:Shared}{Q E:Value->Shared->Prop}{a b:Int}{t u:Tok}
theorem bb(h:Q (.bool (decide (a<b))) s):wpAny (model prog w) A (richCompare .Lt (.int a t) (.int b u)) Q E s:=lt_int h
theorem ba(h:Q (.bool (decide (b<=a))) s):wpAny (model prog w) A (richCompare .GtE (.int a t) (.int b u)) Q E s:=ge_int h
end
theorem uo(l b:Addr)(p q u v:Int)(tp tq tu tv:Tok)(n n2:Nat)(dd Sj:Option Addr)(sl VU:Array (Option Value)) : Meets (Builtin.«tuple.__lt__» ⟨[.ref l,.ref b],[]⟩)
  (λ_ R s=>s.heap.get? l=some { cls:=.type "tuple",dict:=dd,data:=.seq #[.int p tp,.int q tq] n,slots:=sl }/\s.heap.get? b=some { cls:=.type "tuple",dict:=Sj,data:=.seq #[.int u tu,.int v tv] n2,slots:=VU }/\
   R (.ok (.ret (.bool (decide (p<u\/(p=u/\q<v)))))) s):=
 .of_wp λprog w A R s h=>by
  obtain⟨hp,g,d,tk,os⟩:=s;obtain⟨hl,hb,h⟩:=h;have f2:=AutoSeq1.sub_tuple_tuple
  wp_walk using wpAny_loadPart' hl,wpAny_loadPart' hb
  refine EqAt.int_int p tp u tu prog w _ _ ?_;cases c:(p==u)with
  |false=>
   have c':p≠u:=by simpa using c
   wp_walk using bb
   exact⟨_,rfl,by rw[show decide (p<u)=decide (p<u\/p=u/\q<v)by simp[c']];exact h⟩
  |true=>
   have c':p=u:=by simpa using c
   wp_walk
   refine EqAt.int_int q tq v tv prog w _ _ ?_;cases e:(q==v)with
   |false=>
    wp_walk using bb
    exact⟨_,rfl,by rw[show decide (q<v)=decide (p<u\/p=u/\q<v)by simp[c']];exact h⟩
   |true=>
    have e':q=v:=by simpa using e
    wp_walk
    exact⟨_,rfl,by simpa[Builtin.Tuple.tupleCompareSizes,c',e']using h⟩
theorem um(l b:Addr)(p q u v:Int)(tp tq tu tv:Tok)(n n2:Nat)(dd Sj:Option Addr)(sl VU:Array (Option Value)) : Meets (Builtin.«tuple.__ge__» ⟨[.ref l,.ref b],[]⟩)
  (λ_ R s=>s.heap.get? l=some { cls:=.type "tuple",dict:=dd,data:=.seq #[.int p tp,.int q tq] n,slots:=sl }/\s.heap.get? b=some { cls:=.type "tuple",dict:=Sj,data:=.seq #[.int u tu,.int v tv] n2,slots:=VU }/\
   R (.ok (.ret (.bool (decide (u<p\/(p=u/\v<=q)))))) s):=
 .of_wp λprog w A R s h=>by
  obtain⟨hp,g,d,tk,os⟩:=s;obtain⟨hl,hb,h⟩:=h;have f2:=AutoSeq1.sub_tuple_tuple
  wp_walk using wpAny_loadPart' hl,wpAny_loadPart' hb
  refine EqAt.int_int p tp u tu prog w _ _ ?_;cases c:(p==u)with
  |false=>
   have c':p≠u:=by simpa using c
   wp_walk using ba
   exact⟨_,rfl,by rw[show decide (u<=p)=decide (u<p\/p=u/\v<=q)by simp[c'];omega];exact h⟩
  |true=>
   have c':p=u:=by simpa using c
   wp_walk
   refine EqAt.int_int q tq v tv prog w _ _ ?_;cases e:(q==v)with
   |false=>
    wp_walk using ba
    exact⟨_,rfl,by rw[show decide (v<=q)=decide (u<p\/p=u/\v<=q)by simp[c']];exact h⟩
   |true=>
    have e':q=v:=by simpa using e
    wp_walk
    exact⟨_,rfl,by simpa[Builtin.Tuple.tupleCompareSizes,c',e']using h⟩
end TL
namespace L2.PL
open PySem PySem.Spec PyProof.Rows
section
variable{X:Cx}{a:Expr}{fa:EF}{pos:Pos}
theorem rR{p p2:Pos}(hm:X.mg "isinstance" = none)(Gh:X.mg "list" = none)(ha:PX X a fa)(hg:Gl X "isinstance":=by rfl)(Gf:Gl X "list":=by rfl) (he:starEach [a,.Name "list" p2] X.env=(false,eval a X.env)::starEach [.Name "list" p2] X.env:=by rfl) (F2:starEach [.Name "list" p2] X.env=(false,eval (.Name "list" p2) X.env)::starEach [] X.env:=by rfl) (B7:(backTo pos (starEach [.Name "list" p2] X.env)).any (·.1)=false:=by rfl) : PX X (.Call (.Name "isinstance" p) [a,.Name "list" p2] [] pos) (IA "list" fa):=
 Uc (λz=>absurd z (by decide)) (λz=>absurd z (by decide)) (λz=>absurd z (by decide)) (λ_=>rfl) hm Gh R5 ha hg Gf (by decide) (by decide) he F2 B7
def isTup:PV->Option Bool
 |.tup _=>some true
 |_=>none
def O8(f:EF):EF:=λρ=>match f ρ with|some r=>(isTup r.any).map λb=>.cl (.bl b)|none=>none
theorem gK:EO X (.builtin "isinstance") (λxs H Q=>∃x p k,xs=[x,.ty "tuple"]/\Rep X.K H p x/\isTup p=some k/\Q (.bl k) H):=by
 intro AH s σ H xs us Q I r ⟨x,p,k,e1,hp,ek,q⟩;subst e1;obtain⟨u,u2,rfl,ru,Uo⟩:=vals2 r;obtain rfl:u2=Value.type "tuple":=Uo;unfold isTup at ek;split at ek
 ·cases ek;unfold Rep at hp;obtain⟨a,vs,rfl,hq,_⟩:=hp;cases (show u=Value.ref a from ru);obtain⟨its,_,⟨o,h1,h2,_⟩,_⟩:=I.tuple hq;exact W.kia_one W.kitx_tuple I.Bl ⟨o,h1,h2⟩ (show W.kitOne X.K (.type "tuple") (.type "tuple")=some true from rfl) (λz=>nomatch z) λtk=>⟨.bl true,H,I.tok _,rfl,q⟩
 ·cases ek
theorem rS{p p2:Pos}(hm:X.mg "isinstance" = none)(Gh:X.mg "tuple" = none)(ha:PX X a fa)(hg:Gl X "isinstance":=by rfl)(Gf:Gl X "tuple":=by rfl) (he:starEach [a,.Name "tuple" p2] X.env=(false,eval a X.env)::starEach [.Name "tuple" p2] X.env:=by rfl) (F2:starEach [.Name "tuple" p2] X.env=(false,eval (.Name "tuple" p2) X.env)::starEach [] X.env:=by rfl) (B7:(backTo pos (starEach [.Name "tuple" p2] X.env)).any (·.1)=false:=by rfl) : PX X (.Call (.Name "isinstance" p) [a,.Name "tuple" p2] [] pos) (O8 fa):=by
 refine PE.imp (QQ gK hg hm Wb (Ke ha (Ke (aY (v:=.ty "tuple") Gf Gh f9 rfl (by decide) (by decide)) Nw F2) he) (by decide) (by decide) he B7) λσ H Q ⟨G,ρ,r,R,e,q⟩=>?_;unfold O8 at e;split at e
 ·rename_i r' er;cases ek:isTup r'.any with
  |none=>rw[ek]at e;cases e
  |some k=>
   rw[ek]at e;cases e;refine⟨G,ρ,r',R,er,λv G' H' s rv=>?_⟩;exact⟨v,r'.any,k,rfl,rv.any s.sub,ek,q _ G' H' s (by show Rep _ _ _ _;unfold Rep;rfl)⟩
 ·cases e
end
def Uh(c:Int->Int->Int->Int->Bool)(K:W.Frag):R2:=λx y H Q=>∃p q u v a b,x=.ref a/\y=.ref b/\DV K H a [.int p,.int q]/\DV K H b [.int u,.int v]/\Q (.bl (c p q u v)) H
def LG(p q u v:Int):Bool:=decide (p<u\/(p=u/\q<v))
def Jw(p q u v:Int):Bool:=decide (u<p\/(p=u/\v<=q))
def Hd(c:Int->Int->Int->Int->Bool):RV->RV->Option RV
 |.cl (.tup [.int p,.int q]),.cl (.tup [.int u,.int v])=>some (.cl (.bl (c p q u v)))
 |_,_=>none
section
variable{X:Cx}
theorem QP{p q:Int}{us:List Value}(h:BA [.int p,.int q] us):∃t t',us=[.int p t,.int q t']:=by
 cases h with
 |cons a h=>cases h with
  |cons b h=>cases h;obtain⟨t,rfl⟩:=a;obtain⟨t',rfl⟩:=b;exact⟨t,t',rfl⟩
theorem pe(hu:X.A.units+1<cLine):B3 X (compareOp .Lt) (Uh LG X.K):=by
 intro AH s σ H x y v u Q I rx ry ⟨p,q,u',v',a,b,e1,e2,ha,hb,k⟩;subst e1;subst e2;cases (show v=Value.ref a from rx);cases (show u=Value.ref b from ry);obtain⟨i1,r1,⟨⟨c1,d1,t1,s1⟩,h1,k1,n1,z1⟩,_⟩:=I.tuple ha;obtain⟨i2,r2,⟨⟨c2,d2,t2,s2⟩,h2,k2,n2,z2⟩,_⟩:=I.tuple hb;obtain⟨_,_,rfl⟩:=QP r1;obtain⟨_,_,rfl⟩:=QP r2;simp only at k1 z1 k2 z2;subst k1 z1 k2 z2;exact richCompare_meets_room (op:=.Lt) ⟨_,h1,rfl⟩ ⟨_,h2,rfl⟩ F.slot_tuple_lt F.entry_tuple_lt (F.args_tuple_lt_2 _ _) (TL.uo _ _ _ _ _ _ _ _ _ _ _ _ _ _ _ _) ⟨h1,h2,show Value.bool _≠Value.notImplemented/\_ from⟨(λx=>nomatch x),⟨.bl _,H,I,rfl,k⟩⟩⟩ (by omega)
theorem pV(hu:X.A.units+1<cLine):B3 X (compareOp .GtE) (Uh Jw X.K):=by
 intro AH s σ H x y v u Q I rx ry ⟨p,q,u',v',a,b,e1,e2,ha,hb,k⟩;subst e1;subst e2;cases (show v=Value.ref a from rx);cases (show u=Value.ref b from ry);obtain⟨i1,r1,⟨⟨c1,d1,t1,s1⟩,h1,k1,n1,z1⟩,_⟩:=I.tuple ha;obtain⟨i2,r2,⟨⟨c2,d2,t2,s2⟩,h2,k2,n2,z2⟩,_⟩:=I.tuple hb;obtain⟨_,_,rfl⟩:=QP r1;obtain⟨_,_,rfl⟩:=QP r2;simp only at k1 z1 k2 z2;subst k1 z1 k2 z2;exact richCompare_meets_room (op:=.GtE) ⟨_,h1,rfl⟩ ⟨_,h2,rfl⟩ F.slot_tuple_ge F.entry_tuple_ge (F.args_tuple_ge_2 _ _) (TL.um _ _ _ _ _ _ _ _ _ _ _ _ _ _ _ _) ⟨h1,h2,show Value.bool _≠Value.notImplemented/\_ from⟨(λx=>nomatch x),⟨.bl _,H,I,rfl,k⟩⟩⟩ (by omega)
theorem aS{K:W.Frag}{G:Hp}{p q:Int}{v:V}(h:Rep K G (.tup [.int p,.int q]) v):∃a,v=.ref a/\DV K G a [.int p,.int q]:=by
 unfold Rep at h;obtain⟨a,vs,rfl,hq,rl⟩:=h;refine⟨a,rfl,?_⟩;have:=NZ (ns:=[p,q]) (ps:=[.int p,.int q]) rfl rl;rw[this]at hq;exact hq
theorem aJ{K:W.Frag}{c:Int->Int->Int->Int->Bool}:Dq K (Hd c) (Uh c K):=by
 intro x y z H0 G H vx vy Q sub sh e rx ry q;unfold Hd at e;split at e
 ·rename_i p q' u v;cases e;obtain⟨a,rfl,ha⟩:=aS (rx.any sub);obtain⟨b,rfl,hb⟩:=aS (ry.any sub);exact⟨p,q',u,v,a,b,rfl,rfl,ha,hb,q _ G H (A9.refl sub) (by show Rep _ _ _ _;unfold Rep;rfl)⟩
 ·cases e
theorem gd(hu:X.A.units+1<cLine):DO X .Lt (Hd LG):=⟨_,pe hu,aJ⟩
theorem gZ(hu:X.A.units+1<cLine):DO X .GtE (Hd Jw):=⟨_,pV hu,aJ⟩
end
theorem je{f:EF}:RL (Iv f):=λρ r e=>by
 unfold Iv at e;split at e
 ·cases e;rfl
 ·cases e
theorem S6{gt:GF}{g:SF}(h:Fp g):∀(xs:List PV)(ρ:AZ)(r:RV),EB gt g xs ρ=some (.rt r)->r.flat=true
 |[],_,_,e=>by unfold EB at e;cases e
 |x::xs,ρ,r,e=>by
  unfold EB at e;split at e
  ·cases e
  ·split at e
   ·exact S6 h xs _ r e
   ·exact S6 h xs _ r e
   ·cases e
   ·rename_i r' er;cases e;exact h _ _ er
   ·cases e
theorem YG{its:IF}{gt:GF}{g:SF}(h:Fp g):Fp (DI its gt g):=λρ r e=>by
 unfold DI at e;split at e
 ·exact S6 h _ _ _ e
 ·cases e
end L2.PL
namespace L2.K
open L2.PL
noncomputable def XH:SF:=(AQ (Ax (AS (f2 CM (AB 1) (fB Az (AD (AB 0) AI)))) (Al (f2 AM (AB 0) (AB 1))) A8) (AQ (Ai 2 (fC (.int 0))) (AQ (Ax (AS (f2 Cn (fB Az (AD (AB 0) AI)) (fC (.int 0)))) (Ai 2 (f2 AM (AB 0) (fC (.int 0)))) A8) (Al (f2 BI (f2 Ac (f2 C7 (f2 BI (AB 2) (fC (.int 65521))) (fC (.int 48271))) (f2 C7 (AB 1) (fC (.int 30103)))) (fC (.int 65521)))))))
noncomputable def Ck:List PV->Option RV:=denote 3 2 XH
noncomputable def XX:SF:=(AQ (HR 3 4 (AD (f2 Aj (f2 AM (AB 1) (fC (.int 0))) (f2 AM (AB 0) (fC (.int 0)))) (AD (f2 Aj (f2 AM (AB 1) (fC (.int 1))) (f2 AM (AB 0) (fC (.int 1)))) AI))) (Al (f2 Aj (f2 C7 (AB 3) (f2 Aj (f2 AM (AB 2) (fC (.int 1))) (f2 AM (AB 0) (fC (.int 1))))) (f2 C7 (AB 4) (f2 Aj (f2 AM (AB 2) (fC (.int 0))) (f2 AM (AB 0) (fC (.int 0))))))))
noncomputable def Dn:List PV->Option RV:=denote 5 3 XX
noncomputable def XJ:SF:=(AQ (DI (CI (AD (fB Az (AD (AB 0) AI)) AI)) (Ag 1) (Ax (AS (f2 CP (AU Dn (AD (f2 AM (AB 0) (f2 Aj (AB 1) (fC (.int 2)))) (AD (f2 AM (AB 0) (f2 Aj (AB 1) (fC (.int 1)))) (AD (f2 AM (AB 0) (AB 1)) AI)))) (fC (.int 0)))) (Al (fC (.bl true))) A8)) (Al (fC (.bl false))))
noncomputable def Jl:List PV->Option RV:=denote 2 1 XJ
noncomputable def XT:SF:=(AQ (Ai 3 (f2 BI (AU Ck (AD (AB 0) (AD (f2 Ac (AB 1) (fC (.int 1))) AI))) (fC (.int 4)))) (AQ (Ai 4 (fC (.int 0))) (AQ (E4 5 (B9 AI)) (AQ (E4 6 (B9 AI)) (AQ (DI (El (AD (fC (.int 1)) (AD (f2 Aj (AB 2) (fC (.int 1))) AI))) (Ag 7) (AQ (Ai 8 (AU Ck (AD (AB 0) (AD (f2 Ac (f2 Ac (AB 1) (fC (.int 4))) (AB 7)) AI)))) (AQ (Ai 4 (f2 Ac (f2 Ac (AB 4) (fC (.int 1))) (f2 BI (f2 C6 (AB 8) (fC (.int 2))) (fC (.int 4))))) (AQ (Ai 9 (f2 Ac (fC (.int 1)) (f2 BI (f2 C6 (AB 8) (fC (.int 8))) (fC (.int 9))))) (AQ (Ax (AS (f2 CP (AB 3) (fC (.int 3)))) (AQ (Ai 4 (AB 7)) (Ai 9 (f2 C7 (AB 7) (f2 Aj (f2 Aj (AB 2) (fC (.int 1))) (AB 7))))) A8) (Ax (AS (f2 CP (f2 BI (AB 8) (fC (.int 2))) (fC (.int 0)))) (Cy 5 DS (AD (A7 (AD (AB 4) (AD (f2 Aj (fC (.int 0)) (AB 9)) AI))) AI)) (Cy 6 DS (AD (A7 (AD (AB 4) (AD (AB 9) AI))) AI)))))))) (AQ (Ai 10 (f2 Ac (f2 Ac (f2 Ac (B9 (AD (A7 (AD (fC (.int 0)) (AD (fC (.int 0)) AI))) AI)) (AB 5)) (B9 (AD (A7 (AD (f2 Ac (AB 4) (fC (.int 1))) (AD (fC (.int 0)) AI))) AI))) (HN (AB 6)))) (AQ (Ax (AS (AU Jl (AD (AB 10) AI))) (Ai 10 (Bt (CI (AD (AB 2) AI)) 1 [2] (Ag 0) B6 (A7 (AD (AB 0) (AD (f2 Aj (fC (.int 0)) (f2 C7 (AB 0) (f2 Aj (f2 Aj (AB 1) (fC (.int 1))) (AB 0)))) AI))))) A8) (Al (AB 10)))))))))
noncomputable def OW:List PV->Option RV:=denote 11 3 XT
noncomputable def XY:SF:=(AQ (E4 2 (B9 (AD (fC (.int 0)) AI))) (AQ (E4 3 (B9 (AD (fC (.int 0)) AI))) (AQ (DI (CI (AD (fC (.int 5)) AI)) (Ag 4) (AQ (Ai 5 (AU Ck (AD (AB 0) (AD (f2 Ac (f2 Ac (AB 1) (fC (.int 5))) (AB 4)) AI)))) (AQ (Cy 2 DS (AD (f2 Ac (f2 Ac (f2 AM (AB 2) (LX (fC (.int 1)))) (fC (.int 1))) (f2 BI (AB 5) (fC (.int 4)))) AI)) (Cy 3 DS (AD (f2 Ac (f2 Ac (f2 AM (AB 3) (LX (fC (.int 1)))) (fC (.int 1))) (f2 BI (f2 C6 (AB 5) (fC (.int 4))) (fC (.int 4)))) AI))))) (AQ (Ai 6 (B9 (AD (A7 (AD (fC (.int 0)) (AD (fC (.int 0)) AI))) (AD (A7 (AD (fC (.int 5)) (AD (fC (.int 0)) AI))) (AD (A7 (AD (fC (.int 5)) (AD (fC (.int 5)) AI))) (AD (A7 (AD (fC (.int 1)) (AD (fC (.int 5)) AI))) (AD (A7 (AD (fC (.int 1)) (AD (fC (.int 2)) AI))) (AD (A7 (AD (fC (.int 3)) (AD (fC (.int 2)) AI))) (AD (A7 (AD (fC (.int 3)) (AD (fC (.int 3)) AI))) (AD (A7 (AD (fC (.int 2)) (AD (fC (.int 3)) AI))) (AD (A7 (AD (fC (.int 2)) (AD (fC (.int 4)) AI))) (AD (A7 (AD (fC (.int 4)) (AD (fC (.int 4)) AI))) (AD (A7 (AD (fC (.int 4)) (AD (fC (.int 1)) AI))) (AD (A7 (AD (fC (.int 0)) (AD (fC (.int 1)) AI))) AI)))))))))))))) (Al (Bt (Bp false (AB 6)) 2 [2,3] (D7 2 (CJ (Ag 0) (CJ (Ag 1) D8))) B6 (A7 (AD (f2 AM (AB 2) (AB 0)) (AD (f2 AM (AB 3) (AB 1)) AI)))))))))
noncomputable def MS:List PV->Option RV:=denote 7 2 XY
noncomputable def XG:SF:=(AQ (Ai 1 (fC (.int 0))) (AQ (DI (CI (AD (fB Az (AD (AB 0) AI)) AI)) (Ag 2) (AQ (HR 3 4 (AD (f2 AM (AB 0) (f2 Aj (AB 2) (fC (.int 1)))) (AD (f2 AM (AB 0) (AB 2)) AI))) (Ai 1 (f2 Aj (f2 Ac (AB 1) (f2 C7 (f2 AM (AB 3) (fC (.int 0))) (f2 AM (AB 4) (fC (.int 1))))) (f2 C7 (f2 AM (AB 3) (fC (.int 1))) (f2 AM (AB 4) (fC (.int 0)))))))) (Al (AB 1))))
noncomputable def MR:List PV->Option RV:=denote 5 1 XG
noncomputable def XS:SF:=(AQ (Ax (AS (f2 C0 (AU Dn (AD (AB 0) (AD (AB 1) (AD (AB 2) AI)))) (fC (.int 0)))) (Al (fC (.bl false))) A8) (AQ (Ai 3 (A7 (AD (fB JP (AD (f2 AM (AB 0) (fC (.int 0))) (AD (f2 AM (AB 1) (fC (.int 0))) AI))) (AD (fB JP (AD (f2 AM (AB 0) (fC (.int 1))) (AD (f2 AM (AB 1) (fC (.int 1))) AI))) AI)))) (AQ (Ai 4 (A7 (AD (fB FA (AD (f2 AM (AB 0) (fC (.int 0))) (AD (f2 AM (AB 1) (fC (.int 0))) AI))) (AD (fB FA (AD (f2 AM (AB 0) (fC (.int 1))) (AD (f2 AM (AB 1) (fC (.int 1))) AI))) AI)))) (Al (De (EI Co Co (f2 AM (AB 3) (fC (.int 0))) (f2 AM (AB 2) (fC (.int 0))) (f2 AM (AB 4) (fC (.int 0)))) (EI Co Co (f2 AM (AB 3) (fC (.int 1))) (f2 AM (AB 2) (fC (.int 1))) (f2 AM (AB 4) (fC (.int 1)))))))))
noncomputable def HE:List PV->Option RV:=denote 5 3 XS
noncomputable def XR:SF:=(AQ (Ai 4 (B9 (AD (A7 (AD (AB 0) (AD (AB 1) (AD (AB 2) AI)))) (AD (A7 (AD (AB 0) (AD (AB 1) (AD (AB 3) AI)))) AI)))) (AQ (Ai 4 (f2 Ac (AB 4) (B9 (AD (A7 (AD (AB 2) (AD (AB 3) (AD (AB 0) AI)))) (AD (A7 (AD (AB 2) (AD (AB 3) (AD (AB 1) AI)))) AI))))) (AQ (DI (Bp true (AB 4)) (D7 3 (CJ (Ag 5) (CJ (Ag 6) (CJ (Ag 7) D8)))) (Ax (AS (AU HE (AD (AB 5) (AD (AB 6) (AD (AB 7) AI))))) (Al (fC (.bl true))) A8)) (AQ (Ai 8 (f2 C0 (f2 Cn (AU Dn (AD (AB 0) (AD (AB 1) (AD (AB 2) AI)))) (fC (.int 0))) (f2 Cn (AU Dn (AD (AB 0) (AD (AB 1) (AD (AB 3) AI)))) (fC (.int 0))))) (Al (De (AB 8) (f2 C0 (f2 Cn (AU Dn (AD (AB 2) (AD (AB 3) (AD (AB 0) AI)))) (fC (.int 0))) (f2 Cn (AU Dn (AD (AB 2) (AD (AB 3) (AD (AB 1) AI)))) (fC (.int 0))))))))))
noncomputable def GO:List PV->Option RV:=denote 9 4 XR
noncomputable def XM:SF:=(AQ (Ai 1 (fB Az (AD (AB 0) AI))) (AQ (Ax (CU (CA (AS (EI Co Co (fC (.int 3)) (AB 1) (fC (.int 12))))) (AS (f2 Cn (fB Az (AD (Bt (Bp false (AB 0)) 2 [] (D7 2 (CJ (Ag 0) (CJ (Ag 1) D8))) (AS (f2 Cn (fB FA (AD (fB Dw (AD (AB 0) AI)) (AD (fB Dw (AD (AB 1) AI)) AI))) (fC (.int 100)))) (fC (.int 1))) AI)) (fC (.int 0))))) (Al (fC (.bl false))) A8) (AQ (Ax (CU (AS (f2 C0 (J7 (AB 0)) (AB 1))) (CU (AS (AU Jl (AD (AB 0) AI))) (AS (f2 Co (AU MR (AD (AB 0) AI)) (fC (.int 0)))))) (Al (fC (.bl false))) A8) (AQ (DI (CI (AD (AB 1) AI)) (Ag 2) (DI (CI (AD (AB 2) AI)) (Ag 3) (Ax (AS (f2 (Bl true) (f2 BI (f2 Aj (AB 2) (AB 3)) (AB 1)) (B9 (AD (fC (.int 1)) (AD (f2 Aj (AB 1) (fC (.int 1))) AI))))) (Ax (AS (AU GO (AD (f2 AM (AB 0) (f2 Aj (AB 2) (fC (.int 1)))) (AD (f2 AM (AB 0) (AB 2)) (AD (f2 AM (AB 0) (f2 Aj (AB 3) (fC (.int 1)))) (AD (f2 AM (AB 0) (AB 3)) AI)))))) (Al (fC (.bl false))) A8) A8))) (Al (fC (.bl true)))))))
noncomputable def Ky:List PV->Option RV:=denote 4 1 XM
noncomputable def XU:SF:=(AQ (DI (CI (AD (f2 BI (f2 C6 (AU Ck (AD (AB 0) (AD (f2 Ac (AB 1) (fC (.int 1))) AI))) (fC (.int 4))) (fC (.int 5))) AI)) (Ag 3) (AQ (Ai 4 (AU Ck (AD (AB 0) (AD (f2 Ac (f2 Ac (AB 1) (fC (.int 15))) (AB 3)) AI)))) (AQ (Ai 5 (f2 BI (AB 4) (fB Az (AD (AB 2) AI)))) (AQ (Ai 6 (f2 Aj (f2 Ac (f2 AM (f2 AM (AB 2) (AB 5)) (fC (.int 0))) (f2 BI (f2 C6 (AB 4) (fC (.int 16))) (fC (.int 33)))) (fC (.int 16)))) (AQ (Ai 7 (f2 Aj (f2 Ac (f2 AM (f2 AM (AB 2) (AB 5)) (fC (.int 1))) (f2 BI (f2 C6 (AB 4) (fC (.int 1024))) (fC (.int 33)))) (fC (.int 16)))) (AQ (Ai 8 (f2 Ac (f2 Ac (Dk (AB 2) Dv (Dj (AB 5))) (B9 (AD (A7 (AD (AB 6) (AD (AB 7) AI))) AI))) (Dk (AB 2) (Dj (f2 Ac (AB 5) (fC (.int 1)))) Dv))) (Ax (Cd (AS (f2 CM (fB FA (AD (fB Dw (AD (AB 6) AI)) (AD (fB Dw (AD (AB 7) AI)) AI))) (fC (.int 80)))) (AS (AU Ky (AD (AB 8) AI)))) (Ai 2 (AB 8)) A8))))))) (Al (AB 2)))
noncomputable def OX:List PV->Option RV:=denote 9 3 XU
noncomputable def XW:SF:=(AQ (Ai 3 (AU Ck (AD (AB 0) (AD (AB 1) AI)))) (AQ (Ai 4 (AU OW (AD (AB 0) (AD (AB 1) (AD (f2 Ac (fC (.int 3)) (f2 BI (AB 3) (f2 Aj (AB 2) (fC (.int 2))))) AI))))) (AQ (Ax (Cd (AS (f2 CP (AB 2) (fC (.int 12)))) (AS (f2 CP (f2 BI (f2 C6 (AU Ck (AD (AB 0) (AD (f2 Ac (AB 1) (fC (.int 1))) AI))) (fC (.int 20))) (fC (.int 6))) (fC (.int 5))))) (Ai 4 (AU MS (AD (AB 0) (AD (AB 1) AI)))) A8) (AQ (Ai 5 (f2 Aj (f2 BI (f2 C6 (AU Ck (AD (AB 0) (AD (f2 Ac (AB 1) (fC (.int 2))) AI))) (fC (.int 8))) (fC (.int 3))) (fC (.int 1)))) (AQ (Ai 4 (AU OX (AD (AB 0) (AD (AB 1) (AD (Bt (Bp false (AB 4)) 2 [5] (D7 2 (CJ (Ag 0) (CJ (Ag 1) D8))) B6 (A7 (AD (f2 Ac (AB 0) (f2 C7 (AB 2) (AB 1))) (AD (AB 1) AI)))) AI))))) (AQ (Ai 6 (f2 BI (AU Ck (AD (AB 0) (AD (f2 Ac (AB 1) (fC (.int 2))) AI))) (fC (.int 8)))) (AQ (Ax (AS (f2 CP (f2 BI (AB 6) (fC (.int 2))) (fC (.int 1)))) (Ai 4 (HN (Bt (Bp false (AB 4)) 2 [] (D7 2 (CJ (Ag 0) (CJ (Ag 1) D8))) B6 (A7 (AD (f2 Aj (fC (.int 0)) (AB 0)) (AD (AB 1) AI)))))) A8) (AQ (Ax (AS (f2 CP (f2 BI (f2 C6 (AB 6) (fC (.int 2))) (fC (.int 2))) (fC (.int 1)))) (Ai 4 (HN (Bt (Bp false (AB 4)) 2 [] (D7 2 (CJ (Ag 0) (CJ (Ag 1) D8))) B6 (A7 (AD (AB 0) (AD (f2 Aj (fC (.int 0)) (AB 1)) AI)))))) A8) (AQ (Ax (AS (f2 CP (f2 C6 (AB 6) (fC (.int 4))) (fC (.int 1)))) (Ai 4 (HN (Bt (Bp false (AB 4)) 2 [] (D7 2 (CJ (Ag 0) (CJ (Ag 1) D8))) B6 (A7 (AD (AB 1) (AD (AB 0) AI)))))) A8) (AQ (Ai 7 (f2 BI (AU Ck (AD (AB 0) (AD (f2 Ac (AB 1) (fC (.int 3))) AI))) (fB Az (AD (AB 4) AI)))) (AQ (Ai 8 (f2 Aj (f2 BI (f2 C6 (AU Ck (AD (AB 0) (AD (f2 Ac (AB 1) (fC (.int 3))) AI))) (fC (.int 16))) (fC (.int 41))) (fC (.int 20)))) (AQ (Ai 9 (f2 Aj (f2 BI (AU Ck (AD (AB 0) (AD (f2 Ac (AB 1) (fC (.int 4))) AI))) (fC (.int 41))) (fC (.int 20)))) (Al (Bt (Bp false (f2 Ac (Dk (AB 4) (Dj (AB 7)) Dv) (Dk (AB 4) Dv (Dj (AB 7))))) 2 [8,9] (D7 2 (CJ (Ag 0) (CJ (Ag 1) D8))) B6 (A7 (AD (f2 Ac (AB 0) (AB 2)) (AD (f2 Ac (AB 1) (AB 3)) AI)))))))))))))))))
noncomputable def OY:List PV->Option RV:=denote 10 3 XW
noncomputable def W5:SF:=(Al (fB F9 (AD (Bt (Bp false (AB 0)) 1 [] (Ag 0) B6 (De (f2 Co (fB Dw (AD (f2 AM (AB 0) (fC (.int 0))) AI)) (fC (.int 100))) (f2 Co (fB Dw (AD (f2 AM (AB 0) (fC (.int 1))) AI)) (fC (.int 100))))) AI)))
noncomputable def MP:List PV->Option RV:=denote 1 1 W5
noncomputable def Xg:SF:=(Al (f2 Aj (f2 C7 (f2 Aj (f2 AM (AB 1) (fC (.int 0))) (f2 AM (AB 0) (fC (.int 0)))) (f2 Aj (f2 AM (AB 2) (fC (.int 1))) (f2 AM (AB 0) (fC (.int 1))))) (f2 C7 (f2 Aj (f2 AM (AB 1) (fC (.int 1))) (f2 AM (AB 0) (fC (.int 1)))) (f2 Aj (f2 AM (AB 2) (fC (.int 0))) (f2 AM (AB 0) (fC (.int 0)))))))
noncomputable def D3:List PV->Option RV:=denote 3 3 Xg
noncomputable def ie:SF:=(Al (fB F9 (AD (Bt (CI (AD (fB Az (AD (AB 0) AI)) AI)) 1 [0] (Ag 0) B6 (f2 C0 (AU D3 (AD (f2 AM (AB 1) (f2 Aj (AB 0) (fC (.int 2)))) (AD (f2 AM (AB 1) (f2 Aj (AB 0) (fC (.int 1)))) (AD (f2 AM (AB 1) (AB 0)) AI)))) (fC (.int 0)))) AI)))
noncomputable def OS:List PV->Option RV:=denote 1 1 ie
noncomputable def ik:SF:=(Al (Bt (CI (AD (fB Az (AD (AB 0) AI)) AI)) 1 [0] (Ag 0) B6 (A7 (AD (f2 AM (AB 1) (AB 0)) (AD (f2 AM (AB 1) (f2 BI (f2 Ac (AB 0) (fC (.int 1))) (fB Az (AD (AB 1) AI)))) AI)))))
noncomputable def FJ:List PV->Option RV:=denote 1 1 ik
noncomputable def W6:SF:=(Al (f2 (Bl false) (f2 BI (f2 Aj (AB 2) (AB 1)) (AB 0)) (A7 (AD (fC (.int 1)) (AD (f2 Aj (AB 0) (fC (.int 1))) AI)))))
noncomputable def GN:List PV->Option RV:=denote 3 3 W6
noncomputable def Xc:SF:=(AQ (Ai 2 (AU D3 (AD (f2 AM (AB 0) (fC (.int 0))) (AD (f2 AM (AB 0) (fC (.int 1))) (AD (f2 AM (AB 1) (fC (.int 0))) AI))))) (AQ (Ai 3 (AU D3 (AD (f2 AM (AB 0) (fC (.int 0))) (AD (f2 AM (AB 0) (fC (.int 1))) (AD (f2 AM (AB 1) (fC (.int 1))) AI))))) (Al (Ek (De (f2 CM (AB 2) (fC (.int 0))) (f2 Cn (AB 3) (fC (.int 0)))) (De (f2 Cn (AB 2) (fC (.int 0))) (f2 CM (AB 3) (fC (.int 0))))))))
noncomputable def K0:List PV->Option RV:=denote 4 2 Xc
noncomputable def Sk:SF:=(AQ (Ai 2 (f2 AM (AB 1) (fC (.int 0)))) (AQ (Ai 3 (f2 AM (AB 1) (fC (.int 1)))) (AQ (Ax (AS (f2 C0 (AU D3 (AD (AB 2) (AD (AB 3) (AD (AB 0) AI)))) (fC (.int 0)))) (Al (fC (.bl false))) A8) (AQ (Ai 4 (EI Co Co (fB JP (AD (f2 AM (AB 2) (fC (.int 0))) (AD (f2 AM (AB 3) (fC (.int 0))) AI))) (f2 AM (AB 0) (fC (.int 0))) (fB FA (AD (f2 AM (AB 2) (fC (.int 0))) (AD (f2 AM (AB 3) (fC (.int 0))) AI))))) (AQ (Ai 5 (EI Co Co (fB JP (AD (f2 AM (AB 2) (fC (.int 1))) (AD (f2 AM (AB 3) (fC (.int 1))) AI))) (f2 AM (AB 0) (fC (.int 1))) (fB FA (AD (f2 AM (AB 2) (fC (.int 1))) (AD (f2 AM (AB 3) (fC (.int 1))) AI))))) (Al (De (AB 4) (AB 5))))))))
noncomputable def Fo:List PV->Option RV:=denote 6 2 Sk
noncomputable def Xa:SF:=(AQ (Ax (Cd (AS (AU K0 (AD (AB 0) (AD (AB 1) AI)))) (AS (AU K0 (AD (AB 1) (AD (AB 0) AI))))) (Al (fC (.bl true))) A8) (AQ (Ai 2 (Ek (AU Fo (AD (f2 AM (AB 1) (fC (.int 0))) (AD (AB 0) AI))) (AU Fo (AD (f2 AM (AB 1) (fC (.int 1))) (AD (AB 0) AI))))) (AQ (Ai 3 (Ek (AU Fo (AD (f2 AM (AB 0) (fC (.int 0))) (AD (AB 1) AI))) (AU Fo (AD (f2 AM (AB 0) (fC (.int 1))) (AD (AB 1) AI))))) (Al (Ek (AB 2) (AB 3))))))
noncomputable def GP:List PV->Option RV:=denote 4 2 Xa
noncomputable def Xh:SF:=(AQ (Ai 1 (AU FJ (AD (AB 0) AI))) (AQ (DI (CI (AD (fB Az (AD (AB 1) AI)) AI)) (Ag 2) (DI (El (AD (f2 Ac (AB 2) (fC (.int 1))) (AD (fB Az (AD (AB 1) AI)) AI))) (Ag 3) (Ax (Cd (CA (AS (AU GN (AD (fB Az (AD (AB 1) AI)) (AD (AB 2) (AD (AB 3) AI)))))) (AS (AU GP (AD (f2 AM (AB 1) (AB 2)) (AD (f2 AM (AB 1) (AB 3)) AI))))) (Al (fC (.bl false))) A8))) (Al (fC (.bl true)))))
noncomputable def Oc:List PV->Option RV:=denote 4 1 Xh
noncomputable def ig:SF:=(Al (fB Pz (AD (Bt (Bp false (AU FJ (AD (AB 0) AI))) 1 [] (Ag 0) B6 (AU D3 (AD (fC (.tup [(.int 0),(.int 0)])) (AD (f2 AM (AB 0) (fC (.int 0))) (AD (f2 AM (AB 0) (fC (.int 1))) AI))))) AI)))
noncomputable def OT:List PV->Option RV:=denote 1 1 ig
noncomputable def XE:SF:=(AQ (Ax (CA (AS (EI Co Co (fC (.int 3)) (fB Az (AD (AB 0) AI)) (fC (.int 12))))) (Al (fC (.bl false))) A8) (AQ (Ax (AS (f2 C0 (J7 (AB 0)) (fB Az (AD (AB 0) AI)))) (Al (fC (.bl false))) A8) (Al (De (AU MP (AD (AB 0) AI)) (De (AU OS (AD (AB 0) AI)) (De (AU Oc (AD (AB 0) AI)) (f2 Cn (AU OT (AD (AB 0) AI)) (fC (.int 0)))))))))
noncomputable def OU:List PV->Option RV:=denote 1 1 XE
noncomputable def W7:SF:=(Ax (CA (AS (AU OU (AD (AB 0) AI)))) YR A8)
noncomputable def Kv:List PV->Option RV:=denote 1 1 W7
noncomputable def Xd:SF:=(AQ (Ai 2 (f2 Cn (f2 AM (f2 AM (AB 0) (fC (.int 0))) (fC (.int 1))) (f2 AM (AB 1) (fC (.int 1))))) (AQ (Ai 3 (f2 Cn (f2 AM (f2 AM (AB 0) (fC (.int 1))) (fC (.int 1))) (f2 AM (AB 1) (fC (.int 1))))) (AQ (Ax (AS (f2 CP (AB 2) (AB 3))) (Al (fC (.bl false))) A8) (AQ (Ai 4 (AU D3 (AD (f2 AM (AB 0) (fC (.int 0))) (AD (f2 AM (AB 0) (fC (.int 1))) (AD (AB 1) AI))))) (Al (Iu (AS (AB 3)) (f2 Cn (AB 4) (fC (.int 0))) (f2 CM (AB 4) (fC (.int 0)))))))))
noncomputable def MV:List PV->Option RV:=denote 5 2 Xd
noncomputable def Xe:SF:=(AQ (Ax (AS (fB KZ (AD (Bt (Bp false (AB 0)) 1 [1] (Ag 0) B6 (AU Fo (AD (AB 1) (AD (AB 0) AI)))) AI))) (Al (fC (.str "on"))) A8) (AQ (Ai 2 (Bt (Bp false (AB 0)) 1 [1] (Ag 0) (AS (AU MV (AD (AB 0) (AD (AB 1) AI)))) (AB 0))) (Al (Iu (AS (f2 CP (f2 BI (fB Az (AD (AB 2) AI)) (fC (.int 2))) (fC (.int 1)))) (fC (.str "in")) (fC (.str "out"))))))
noncomputable def Oa:List PV->Option RV:=denote 3 2 Xe
noncomputable def Xb:SF:=(AQ (Ai 2 (Bt (Bp false (AB 0)) 1 [] (Ag 0) B6 (A7 (AD (f2 C7 (fC (.int 2)) (f2 AM (AB 0) (fC (.int 0)))) (AD (f2 C7 (fC (.int 2)) (f2 AM (AB 0) (fC (.int 1)))) AI))))) (AQ (Ai 3 (A7 (AD (f2 Ac (f2 AM (f2 AM (AB 1) (fC (.int 0))) (fC (.int 0))) (f2 AM (f2 AM (AB 1) (fC (.int 1))) (fC (.int 0)))) (AD (f2 Ac (f2 AM (f2 AM (AB 1) (fC (.int 0))) (fC (.int 1))) (f2 AM (f2 AM (AB 1) (fC (.int 1))) (fC (.int 1)))) AI)))) (Al (f2 CP (AU Oa (AD (AU FJ (AD (AB 2) AI)) (AD (AB 3) AI))) (fC (.str "in"))))))
noncomputable def OZ:List PV->Option RV:=denote 4 2 Xb
noncomputable def XC:SF:=(AQ (Ax (CU (CA (AS (EW Co CM CM (fC (.int 0)) (AB 1) (AB 2) (fB Az (AD (AB 0) AI))))) (AS (AU GN (AD (fB Az (AD (AB 0) AI)) (AD (AB 1) (AD (AB 2) AI)))))) (Al (fC (.bl false))) A8) (AQ (Ai 3 (A7 (AD (f2 AM (AB 0) (AB 1)) (AD (f2 AM (AB 0) (AB 2)) AI)))) (AQ (Ai 4 (Bt (Bp false (AU FJ (AD (AB 0) AI))) 1 [3] (Ag 0) (Cd (AS (f2 (IH true) (f2 AM (AB 1) (fC (.int 0))) (AB 0))) (AS (f2 (IH true) (f2 AM (AB 1) (fC (.int 1))) (AB 0)))) (AB 0))) (AQ (Ax (AS (fB KZ (AD (Bt (Bp false (AB 4)) 1 [3] (Ag 0) B6 (AU GP (AD (AB 1) (AD (AB 0) AI)))) AI))) (Al (fC (.bl false))) A8) (Al (AU OZ (AD (AB 0) (AD (AB 3) AI))))))))
noncomputable def HD:List PV->Option RV:=denote 5 3 XC
noncomputable def XZ:SF:=(AQ (E4 1 (B9 AI)) (AQ (DI (CI (AD (fB Az (AD (AB 0) AI)) AI)) (Ag 2) (Cy 1 Ll (AD (Bt (El (AD (f2 Ac (AB 2) (fC (.int 1))) (AD (fB Az (AD (AB 0) AI)) AI))) 1 [0,2] (Ag 0) (AS (AU HD (AD (AB 1) (AD (AB 2) (AD (AB 0) AI))))) (A7 (AD (AB 2) (AD (AB 0) AI)))) AI))) (PM 1)))
noncomputable def MU:List PV->Option RV:=denote 3 1 XZ
noncomputable def W8:SF:=(Al (Ek (EW CM CM CM (f2 AM (AB 0) (fC (.int 0))) (f2 AM (AB 1) (fC (.int 0))) (f2 AM (AB 0) (fC (.int 1))) (f2 AM (AB 1) (fC (.int 1)))) (EW CM CM CM (f2 AM (AB 1) (fC (.int 0))) (f2 AM (AB 0) (fC (.int 0))) (f2 AM (AB 1) (fC (.int 1))) (f2 AM (AB 0) (fC (.int 1))))))
noncomputable def MQ:List PV->Option RV:=denote 2 2 W8
noncomputable def W9:SF:=(Al (Iv (fB KZ (AD (Bt (Bp false (AB 1)) 1 [0] (Ag 0) B6 (AU MQ (AD (AB 1) (AD (AB 0) AI)))) AI))))
noncomputable def HC:List PV->Option RV:=denote 2 2 W9
noncomputable def XA:SF:=(AQ (Lc (AU Kv (AD (AB 0) AI))) (AQ (E4 1 (B9 AI)) (AQ (DI (Bp true (AU MU (AD (AB 0) AI))) (Ag 2) (Ax (AS (FP HC (AD (AB 2) (AD (AB 1) AI)))) (Cy 1 DS (AD (AB 2) AI)) A8)) (PM 1))))
noncomputable def Kw:List PV->Option RV:=denote 3 1 XA
noncomputable def ij:SF:=(Al (De (IA "int" (AB 0)) (Iv (IA "bool" (AB 0)))))
noncomputable def Jo:List PV->Option RV:=denote 1 1 ij
noncomputable def XQ:SF:=(AQ (Ax (CA (AS (IA "list" (AB 0)))) (Al (fC (.bl false))) A8) (AQ (DI (Bp true (AB 0)) (Ag 1) (Ax (CU (CA (AS (O8 (AB 1)))) (CU (AS (f2 C0 (fB Az (AD (AB 1) AI)) (fC (.int 2)))) (CU (CA (AS (AU Jo (AD (f2 AM (AB 1) (fC (.int 0))) AI)))) (CA (AS (AU Jo (AD (f2 AM (AB 1) (fC (.int 1))) AI))))))) (Al (fC (.bl false))) A8)) (Al (fC (.bl true)))))
noncomputable def Jn:List PV->Option RV:=denote 2 1 XQ
noncomputable def XO:SF:=(AQ (Ai 3 (fB Az (AD (AB 0) AI))) (AQ (Ax (CU (CA (AS (EW Co CM CM (fC (.int 0)) (AB 1) (AB 2) (AB 3)))) (AS (f2 (Bl false) (f2 Aj (AB 2) (AB 1)) (B9 (AD (fC (.int 1)) (AD (f2 Aj (AB 3) (fC (.int 1))) AI)))))) (Al (fC (.bl false))) A8) (AQ (HR 4 5 (AD (f2 AM (AB 0) (AB 1)) (AD (f2 AM (AB 0) (AB 2)) AI))) (AQ (DI (CI (AD (AB 3) AI)) (Ag 6) (AQ (Ax (Cd (AS (f2 (Bl true) (AB 6) (B9 (AD (AB 1) (AD (AB 2) AI))))) (AS (AU HE (AD (AB 4) (AD (AB 5) (AD (f2 AM (AB 0) (AB 6)) AI)))))) (Al (fC (.bl false))) A8) (AQ (Ai 7 (f2 BI (f2 Ac (AB 6) (fC (.int 1))) (AB 3))) (Ax (Cd (AS (f2 (Bl true) (AB 6) (B9 (AD (AB 1) (AD (AB 2) AI))))) (AS (f2 (Bl true) (AB 7) (B9 (AD (AB 1) (AD (AB 2) AI)))))) (Ax (AS (AU GO (AD (AB 4) (AD (AB 5) (AD (f2 AM (AB 0) (AB 6)) (AD (f2 AM (AB 0) (AB 7)) AI)))))) (Al (fC (.bl false))) A8) A8)))) (AQ (Ai 8 (f2 Cn (AU Dn (AD (AB 4) (AD (f2 AM (AB 0) (f2 BI (f2 Ac (AB 1) (fC (.int 1))) (AB 3))) (AD (AB 5) AI)))) (fC (.int 0)))) (AQ (Ai 9 (f2 Cn (AU Dn (AD (f2 AM (AB 0) (f2 Aj (AB 1) (fC (.int 1)))) (AD (AB 4) (AD (AB 5) AI)))) (fC (.int 0)))) (AQ (Ax (AS (f2 Cn (AU Dn (AD (f2 AM (AB 0) (f2 Aj (AB 1) (fC (.int 1)))) (AD (AB 4) (AD (f2 AM (AB 0) (f2 BI (f2 Ac (AB 1) (fC (.int 1))) (AB 3))) AI)))) (fC (.int 0)))) (Al (De (AB 8) (AB 9))) A8) (Al (Ek (AB 8) (AB 9))))))))))
noncomputable def Kz:List PV->Option RV:=denote 10 3 XO
noncomputable def XI:SF:=(Al (Ek (EW CM CM CM (f2 AM (AB 0) (fC (.int 0))) (f2 AM (AB 1) (fC (.int 0))) (f2 AM (AB 0) (fC (.int 1))) (f2 AM (AB 1) (fC (.int 1)))) (EW CM CM CM (f2 AM (AB 1) (fC (.int 0))) (f2 AM (AB 0) (fC (.int 0))) (f2 AM (AB 1) (fC (.int 1))) (f2 AM (AB 0) (fC (.int 1))))))
noncomputable def Jk:List PV->Option RV:=denote 2 2 XI
noncomputable def XN:SF:=(AQ (Ax (AS (f2 C0 (fB Az (AD (AB 1) AI)) (f2 Aj (fB Az (AD (AB 0) AI)) (fC (.int 3))))) (Al (fC (.bl false))) A8) (AQ (DI (CI (AD (fB Az (AD (AB 1) AI)) AI)) (Ag 2) (AQ (Ax (CU (CA (AS (AU Kz (AD (AB 0) (AD (f2 AM (f2 AM (AB 1) (AB 2)) (fC (.int 0))) (AD (f2 AM (f2 AM (AB 1) (AB 2)) (fC (.int 1))) AI)))))) (Cd (AS (f2 Cn (AB 2) (fC (.int 0)))) (AS (f2 (Hd Jw) (f2 AM (AB 1) (f2 Aj (AB 2) (fC (.int 1)))) (f2 AM (AB 1) (AB 2)))))) (Al (fC (.bl false))) A8) (Ax (AS (f2 Cn (fB Az (AD (Bt (CI (AD (AB 2) AI)) 1 [1,2] (Ag 0) (AS (AU Jk (AD (f2 AM (AB 1) (AB 0)) (AD (f2 AM (AB 1) (AB 2)) AI)))) (AB 0)) AI)) (fC (.int 0)))) (Al (fC (.bl false))) A8))) (Al (fC (.bl true)))))
noncomputable def Jm:List PV->Option RV:=denote 3 2 XN
noncomputable def Xf:SF:=(Al (fB F9 (AD (Bt (El (AD (fC (.int 1)) (AD (fB Az (AD (AB 0) AI)) AI))) 1 [0] (Ag 0) B6 (f2 (Hd LG) (f2 AM (AB 1) (f2 Aj (AB 0) (fC (.int 1)))) (f2 AM (AB 1) (AB 0)))) AI)))
noncomputable def MW:List PV->Option RV:=denote 1 1 Xf
noncomputable def XB:SF:=(AQ (Ax (AS (f2 C0 (fB Az (AD (AB 1) AI)) (f2 Aj (fB Az (AD (AB 0) AI)) (fC (.int 3))))) (Al (fC (.bl false))) A8) (AQ (Ax (CU (CA (AS (AU MW (AD (AB 1) AI)))) (CA (AS (fB F9 (AD (Bt (Bp false (AB 1)) 1 [0] (Ag 0) B6 (AU HD (AD (AB 1) (AD (f2 AM (AB 0) (fC (.int 0))) (AD (f2 AM (AB 0) (fC (.int 1))) AI))))) AI))))) (Al (fC (.bl false))) A8) (Al (fB F9 (AD (Bt (CI (AD (fB Az (AD (AB 1) AI)) AI)) 1 [1] (Ag 0) B6 (AU HC (AD (f2 AM (AB 1) (AB 0)) (AD (Dk (AB 1) Dv (Dj (AB 0))) AI)))) AI)))))
noncomputable def RK:List PV->Option RV:=denote 2 2 XB
noncomputable def XD:SF:=(AQ (Lc (AU Kv (AD (AB 0) AI))) (Al (AU RK (AD (AB 0) (AD (AB 1) AI)))))
noncomputable def Kx:List PV->Option RV:=denote 2 2 XD
noncomputable def XF:SF:=(AQ (Ai 1 (AU OY (AD (AB 0) (AD (fC (.int 0)) (AD (fC (.int 12)) AI))))) (AQ (Ai 2 (fB Ln (AD (AB 1) AI))) (AQ (DI (CI (AD (fC (.int 2)) AI)) (Ag 3) (AQ (E4 4 (AU Kw (AD (AB 2) AI))) (AQ (Ax (CU (CA (AS (FP Jn (AD (AB 4) AI)))) (CU (CA (AS (FP Jm (AD (AB 1) (AD (AB 4) AI))))) (AS (f2 C0 (AB 2) (AB 1))))) (Al (fC (.bl false))) A8) (AQ (Ax (AS (f2 Ka (AU Kx (AD (AB 2) (AD (fB Ln (AD (AB 4) AI)) AI))) (fC (.bl true)))) (Al (fC (.bl false))) A8) (Cy 4 DS (AD (A7 (AD (fC (.int 0)) (AD (fC (.int 0)) AI))) AI)))))) (Al (fC (.bl true))))))
noncomputable def OV:List PV->Option RV:=denote 5 1 XF
end L2.K
set_option linter.all false
namespace AJ
abbrev Pt:=Int×Int
def AE(a b p:Pt):Int:=(b.1-a.1)*(p.2-a.2)-(b.2-a.2)*(p.1-a.1)
def As(a b p:Pt):Bool:=decide (AE a b p=0)&&(decide (min a.1 b.1<=p.1/\p.1<=max a.1 b.1)&&decide (min a.2 b.2<=p.2/\p.2<=max a.2 b.2))
def On(a b p:Pt):Prop:=AE a b p=0/\(min a.1 b.1<=p.1/\p.1<=max a.1 b.1)/\(min a.2 b.2<=p.2/\p.2<=max a.2 b.2)
theorem GG{a b p:Pt}:As a b p=true↔On a b p:=by
 simp[As,On]
theorem Oo{p q u d:Int}(hq:0<q)(h0:0<=p)(h1:p<=q)(e:q*u=p*d):(0<=u/\u<=d)\/(d<=u/\u<=0):=by
 rcases Int.le_total 0 d with hd|hd
 ·left;have h2:0<=q*u:=by rw[e];exact Int.mul_nonneg h0 hd
  have h3:q*u<=q*d:=by rw[e];exact Int.mul_le_mul_of_nonneg_right h1 hd
  exact⟨Int.le_of_mul_le_mul_left (by simpa using h2) hq,Int.le_of_mul_le_mul_left h3 hq⟩
 ·right;have h2:q*u<=0:=by rw[e];exact Int.mul_nonpos_of_nonneg_of_nonpos h0 hd
  have h3:q*d<=q*u:=by rw[e];exact Int.mul_le_mul_of_nonpos_right h1 hd
  exact⟨Int.le_of_mul_le_mul_left h3 hq,Int.le_of_mul_le_mul_left (by simpa using h2) hq⟩
theorem pJ{a b c d:Pt}(h:AE a b c=0)(hs:(AE c d a>0/\AE c d b<=0)\/(AE c d a<=0/\AE c d b>0)\/(AE c d a<0/\AE c d b>=0)\/(AE c d a>=0/\AE c d b<0)):On a b c:=by
 refine⟨h,?_⟩;obtain⟨a1,a2⟩:=a;obtain⟨b1,b2⟩:=b;obtain⟨c1,c2⟩:=c;obtain⟨d1,d2⟩:=d;simp only[AE]at *
 have key:∀p q:Int,0<q->0<=p->p<=q->q*(c1-a1)=p*(b1-a1)->q*(c2-a2)=p*(b2-a2)->(min a1 b1<=c1/\c1<=max a1 b1)/\(min a2 b2<=c2/\c2<=max a2 b2):=by
  intro p q h1 h2 h3 e1 e2;have r1:=Oo h1 h2 h3 e1;have r2:=Oo h1 h2 h3 e2;lia
 generalize hu:(d1-c1)*(c2-a2)-(d2-c2)*(c1-a1)=eu;generalize hd:(d1-c1)*(b2-a2)-(d2-c2)*(b1-a1)=ed;have i1:(d1-c1)*(a2-c2)-(d2-c2)*(a1-c1) = -eu:=by rw[<-hu];grind
 have i2:(d1-c1)*(b2-c2)-(d2-c2)*(b1-c1)=ed-eu:=by rw[<-hu,<-hd];grind
 have j1:ed*(c1-a1)=eu*(b1-a1):=by rw[<-hu,<-hd];grind
 have j2:ed*(c2-a2)=eu*(b2-a2):=by rw[<-hu,<-hd];grind
 rw[i1,i2]at hs;have KR:(0<=eu/\eu<=ed/\0<ed)\/(eu<=0/\ed<=eu/\ed<0):=by lia
 rcases KR with⟨h1,h2,h3⟩|⟨h1,h2,h3⟩
 ·exact key eu ed h3 h1 h2 j1 j2
 ·exact key (-eu) (-ed) (by lia) (by lia) (by lia) (by rw[Int.neg_mul,Int.neg_mul,j1]) (by rw[Int.neg_mul,Int.neg_mul,j2])
theorem QG{a b c d:Pt}(n:¬ On a b c):¬ (AE a b c=0/\((AE c d a>0/\AE c d b<=0)\/(AE c d a<=0/\AE c d b>0)\/(AE c d a<0/\AE c d b>=0)\/(AE c d a>=0/\AE c d b<0))):=λz=>n (pJ z.1 z.2)
theorem HA(a b p:Pt):AE b a p = - AE a b p:=by
 simp only[AE];grind
theorem aG{a b p:Pt}(h:On a b p):On b a p:=by
 obtain⟨h1,h2,h3⟩:=h;refine⟨by rw[HA,h1];rfl,?_,?_⟩<;>lia
def parts(a b c d:Pt):Bool:=(decide (AE a b c<0)&&decide (AE a b d>0))||(decide (AE a b c>0)&&decide (AE a b d<0))
def BZ(a b c d:Pt):Bool:=(parts a b c d&&parts c d a b)||((As a b c||As a b d)||(As c d a||As c d b))
def CF(a b c d:Pt):Bool:=(As a b c||As a b d||As c d a||As c d b)||((decide (AE a b c>0) != decide (AE a b d>0))&&(decide (AE c d a>0) != decide (AE c d b>0)))
theorem P9(a b c d:Pt):CF a b c d=BZ a b c d:=by
 rw[Bool.eq_iff_iff];by_cases h1:As a b c=true
 ·simp[CF,BZ,h1]
 by_cases h2:As a b d=true
 ·simp[CF,BZ,h2]
 by_cases h3:As c d a=true
 ·simp[CF,BZ,h3]
 by_cases h4:As c d b=true
 ·simp[CF,BZ,h4]
 have n1:=λz=>h1 (GG.mpr z);have n2:=λz=>h2 (GG.mpr z);have n3:=λz=>h3 (GG.mpr z);have n4:=λz=>h4 (GG.mpr z);have k1:=QG (d:=d) n1;have k2:=QG (d:=c) n2;have k3:=QG (d:=b) n3;have k4:=QG (d:=a) n4;rw[HA c d a,HA c d b]at k2;rw[HA a b c,HA a b d]at k4;simp[CF,BZ,parts,h1,h2,h3,h4];lia
theorem QJ(a b p:Pt):As a b p=As b a p:=by
 rw[Bool.eq_iff_iff,GG,GG];exact⟨aG,aG⟩
theorem meet_comm(a b c d:Pt):BZ a b c d=BZ c d a b:=by
 simp only[BZ];rw[Bool.and_comm (parts a b c d),Bool.or_comm (As a b c||As a b d)]
def AA(r:List Pt)(i:Int):Pt:=r.getD (i%(r.length:Int)).toNat (0,0)
theorem E2(r:List Pt)(i:Int):AA r (i+r.length)=AA r i:=by
 unfold AA;rw[Int.add_emod_right]
def M(r:List Pt)(i j:Int):Bool:=BZ (AA r i) (AA r (i+1)) (AA r j) (AA r (j+1))
theorem HF(r:List Pt)(i j:Int):M r i j=M r j i:=meet_comm ..
theorem WD(r:List Pt)(i j:Int):M r (i+r.length) j=M r i j:=by
 unfold M;rw[E2,show i+(r.length:Int)+1=i+1+r.length by lia,E2]
def nb(n d:Int):Bool:=(d%n==1)||(d%n==n-1)
theorem Nm{n d:Int}(h0:0<d)(h1:d<n):nb n d=(d==1||d==n-1):=by
 unfold nb;rw[Int.emod_eq_of_lt (by lia) h1]
def K6(r:List Pt):Prop:=∀k m:Int,0<=k->k<m->m<r.length->nb r.length (m-k)=false->M r k m=false
def Rh(r:List Pt):Prop:=∀k j:Int,0<=j->j<k->k<r.length->nb r.length (k-j)=false->M r (k-1) (j-1)=false
theorem fS(r:List Pt):Rh r↔K6 r:=by
 constructor
 ·intro h k m h0 h1 h2 hn;by_cases hm:m+1<r.length
  ·have:=h (m+1) (k+1) (by lia) (by lia) hm (by rw[show m+1-(k+1)=m-k by lia];exact hn);rw[show m+1-1=m by lia,show k+1-1=k by lia]at this;rw[HF];exact this
  ·have C5:m=r.length-1:=by lia
   subst C5;have:=h (k+1) 0 (by lia) (by lia) (by lia) (by
    rw[Nm (by lia) (by lia)]at hn ⊢;simp only[Bool.or_eq_false_iff,beq_eq_false_iff_ne]at hn ⊢;lia)
   rw[show k+1-1=k by lia,HF,<-WD,HF]at this;rw[show(r.length:Int)-1=0-1+r.length by lia];exact this
 ·intro h k j h0 h1 h2 hn;by_cases hj:0<j
  ·have:=h (j-1) (k-1) (by lia) (by lia) (by lia) (by rw[show k-1-(j-1)=k-j by lia];exact hn);rw[HF];exact this
  ·have Cz:j=0:=by lia
   subst Cz;have:=h (k-1) (r.length-1) (by lia) (by
    rw[Nm (by lia) (by lia)]at hn;simp only[Bool.or_eq_false_iff,beq_eq_false_iff_ne]at hn;lia) (by lia) (by
    rw[Nm (by lia) (by lia)]at hn;simp only[Bool.or_eq_false_iff,beq_eq_false_iff_ne]at hn;rw[Nm (by lia) (by lia)];simp only[Bool.or_eq_false_iff,beq_eq_false_iff_ne];lia)
   rw[HF,<-WD,HF,show(0:Int)-1+r.length=r.length-1 by lia];exact this
def AW(f:Int->Int):Nat->Int
 |0=>0
 |n+1=>AW f n+f n
theorem cT(f:Int->Int):∀n:Nat,AW (λk=>f (k-1)) (n+1)=f (-1)+AW f n
 |0=>by simp[AW]
 |n+1=>by
  rw[AW,cT f n,AW];have:((n:Int)+1-1)=n:=by lia
  simp only[Int.natCast_add,Int.natCast_one]at *
  rw[this];lia
theorem VZ(f:Int->Int)(n:Nat)(h:∀i,f (i+n)=f i):AW (λk=>f (k-1)) n=AW f n:=by
 cases n with
 |zero=>rfl
 |succ n=>
  rw[cT,AW,<-h (-1)];have:(-1:Int)+((n+1:Nat):Int)=n:=by lia
  rw[this];lia
def Br(a b:Pt):Int:=a.1*b.2-a.2*b.1
def K7(r:List Pt):Int:=AW (λk=>Br (AA r (k-1)) (AA r k)) r.length
def Ds(r:List Pt):Int:=AW (λk=>Br (AA r k) (AA r (k+1))) r.length
theorem fU(r:List Pt):K7 r=Ds r:=by
 have:=VZ (λk=>Br (AA r k) (AA r (k+1))) r.length (λi=>by
  rw[E2,show i+(r.length:Int)+1=i+1+r.length by lia,E2])
 rw[Ds,<-this,K7]
 congr 1
 funext k
 rw[show k-1+1=k by lia]
def At(a b p:Pt):Prop:=∃q s:Int,0<q/\0<=s/\s<=q/\q*(p.1-a.1)=s*(b.1-a.1)/\q*(p.2-a.2)=s*(b.2-a.2)
theorem Gw{a b p:Pt}(h:At a b p):On a b p:=by
 obtain⟨q,s,hq,h0,h1,e1,e2⟩:=h;have r1:=Oo hq h0 h1 e1;have r2:=Oo hq h0 h1 e2;refine⟨?_,by lia,by lia⟩;have hz:q*AE a b p=0:=by
  have:q*AE a b p=(b.1-a.1)*(q*(p.2-a.2))-(b.2-a.2)*(q*(p.1-a.1)):=by unfold AE;grind
  rw[this,e1,e2];grind
 rcases Int.mul_eq_zero.mp hz with h|h
 ·lia
 ·exact h
theorem K8{a b p:Pt}(h:On a b p):At a b p:=by
 obtain⟨hs,h1,h2⟩:=h;unfold AE at hs;have key:(b.1-a.1)*(p.2-a.2)=(b.2-a.2)*(p.1-a.1):=by lia
 by_cases hx:b.1-a.1=0
 ·by_cases hy:b.2-a.2=0
  ·exact⟨1,0,by lia,by lia,by lia,by lia,by lia⟩
  ·have hp:p.1-a.1=0:=by lia
   rcases Int.lt_or_gt_of_ne hy with B4|Pg
   ·exact⟨-(b.2-a.2),-(p.2-a.2),by lia,by lia,by lia,by rw[hx,hp];lia,by grind⟩
   ·exact⟨b.2-a.2,p.2-a.2,by lia,by lia,by lia,by rw[hx,hp];lia,by grind⟩
 ·rcases Int.lt_or_gt_of_ne hx with B4|Pg
  ·exact⟨-(b.1-a.1),-(p.1-a.1),by lia,by lia,by lia,by grind,by grind⟩
  ·exact⟨b.1-a.1,p.1-a.1,by lia,by lia,by lia,by grind,by grind⟩
theorem QK{a b p:Pt}:On a b p↔At a b p:=⟨K8,Gw⟩
def B0(a b c d:Pt):Prop:=∃q s t:Int,0<q/\0<=s/\s<=q/\0<=t/\t<=q/\q*a.1+s*(b.1-a.1)=q*c.1+t*(d.1-c.1)/\q*a.2+s*(b.2-a.2)=q*c.2+t*(d.2-c.2)
theorem B0.symm{a b c d:Pt}(h:B0 a b c d):B0 c d a b:=by
 obtain⟨q,s,t,h1,h2,h3,h4,h5,e1,e2⟩:=h;exact⟨q,t,s,h1,h4,h5,h2,h3,e1.symm,e2.symm⟩
theorem Qx{a b c d:Pt}(h:At a b c):B0 a b c d:=by
 obtain⟨q,s,hq,h0,h1,e1,e2⟩:=h;exact⟨q,s,0,hq,h0,h1,by lia,by lia,by grind,by grind⟩
theorem VQ{a b c d:Pt}(h:At a b d):B0 a b c d:=by
 obtain⟨q,s,hq,h0,h1,e1,e2⟩:=h;exact⟨q,s,q,hq,h0,h1,by lia,by lia,by grind,by grind⟩
theorem sy{a b c d:Pt}(h1:parts a b c d=true)(h2:parts c d a b=true):B0 a b c d:=by
 have i1:AE a b c-AE a b d=AE c d b-AE c d a:=by unfold AE;grind
 have j1:(AE c d a-AE c d b)*a.1+AE c d a*(b.1-a.1)=(AE c d a-AE c d b)*c.1 + -(AE a b c)*(d.1-c.1):=by unfold AE;grind
 have j2:(AE c d a-AE c d b)*a.2+AE c d a*(b.2-a.2)=(AE c d a-AE c d b)*c.2 + -(AE a b c)*(d.2-c.2):=by unfold AE;grind
 simp only[parts,Bool.or_eq_true,Bool.and_eq_true,decide_eq_true_eq]at h1 h2;generalize AE a b c=x1 at *
 generalize AE a b d=x2 at *
 generalize AE c d a=y1 at *
 generalize AE c d b=y2 at *
 by_cases hy:y1-y2>0
 ·exact⟨y1-y2,y1,-x1,hy,by lia,by lia,by lia,by lia,j1,j2⟩
 ·refine⟨-(y1-y2),-y1,x1,by lia,by lia,by lia,by lia,by lia,?_,?_⟩
  ·have : -(y1-y2)*a.1 + -y1*(b.1-a.1) = -((y1-y2)*a.1+y1*(b.1-a.1)):=by grind
   rw[this,j1];grind
  ·have : -(y1-y2)*a.2 + -y1*(b.2-a.2) = -((y1-y2)*a.2+y1*(b.2-a.2)):=by grind
   rw[this,j2];grind
theorem VR{a b c d:Pt}(h:BZ a b c d=true):B0 a b c d:=by
 simp only[BZ,Bool.or_eq_true,Bool.and_eq_true,GG]at h;rcases h with⟨h1,h2⟩|(h|h)|(h|h)
 ·exact sy h1 h2
 ·exact Qx (K8 h)
 ·exact VQ (K8 h)
 ·exact(Qx (K8 h)).symm
 ·exact(VQ (K8 h)).symm
theorem BU{a b c d:Pt}(h:¬ B0 a b c d):BZ a b c d=false:=by
 cases e:BZ a b c d with
 |false=>rfl
 |true=>exact absurd (VR e) h
theorem Fy(r:List Pt)(i:Int):AA r (i%r.length)=AA r i:=by
 unfold AA;rw[Int.emod_emod_of_dvd _ (Int.dvd_refl _)]
theorem WE(r:List Pt)(i j:Int):M r (i%r.length) j=M r i j:=by
 unfold M;have h:AA r (i%r.length+1)=AA r (i+1):=by
  unfold AA;rw[Int.emod_add_emod]
 rw[h,Fy]
theorem fD(r:List Pt)(i j:Int):M r i (j%r.length)=M r i j:=by
 rw[HF,WE,HF]
def CN(n d:Int):Prop:=d%n≠0/\d%n≠1/\d%n≠n-1
theorem CN.neg{n d:Int}(hn:2<=n)(h:CN n d):CN n (-d):=by
 obtain⟨h0,h1,h2⟩:=h;have a:=Int.emod_nonneg d (b:=n) (by lia);have b:=Int.emod_lt_of_pos d (b:=n) (by lia);have e:(-d)%n=n-d%n:=by
  have : -d=(n-d%n)+n*(-(d / n)-1):=by
   have:=Int.mul_ediv_add_emod d n
   grind
  rw[this,Int.add_mul_emod_self_left,Int.emod_eq_of_lt (by lia) (by lia)]
 exact⟨by lia,by lia,by lia⟩
theorem S4{n d:Int}(h0:0<d)(h1:d<n)(h:nb n d=false):CN n d:=by
 rw[Nm h0 h1]at h;simp only[Bool.or_eq_false_iff,beq_eq_false_iff_ne]at h;unfold CN;rw[Int.emod_eq_of_lt (by lia) h1];lia
theorem Z4{n d:Int}(h:CN n d):nb n d=false:=by
 unfold nb;simp only[Bool.or_eq_false_iff,beq_eq_false_iff_ne];exact⟨h.2.1,h.2.2⟩
def Ri(r:List Pt):Prop:=∀i j:Int,CN r.length (i-j)->M r i j=false
theorem Rj{r:List Pt}(hn:2<=r.length)(h:K6 r):Ri r:=by
 intro i j hf;rw[<-WE,<-fD];have a1:=Int.emod_nonneg i (b:=(r.length:Int)) (by lia);have a2:=Int.emod_lt_of_pos i (b:=(r.length:Int)) (by lia);have b1:=Int.emod_nonneg j (b:=(r.length:Int)) (by lia);have b2:=Int.emod_lt_of_pos j (b:=(r.length:Int)) (by lia);have TR:CN r.length (i%r.length-j%r.length):=by
  unfold CN at *
  rw[<-Int.sub_emod];exact hf
 have kg:=TR.neg (by lia);generalize i%(r.length:Int)=x at *
 generalize j%(r.length:Int)=y at *
 rcases Int.lt_trichotomy x y with B4|heq|Pg
 ·exact h x y a1 B4 b2 (Z4 (by rw[show y-x = -(x-y)by lia];exact kg))
 ·exfalso;apply TR.1;rw[heq,Int.sub_self];rfl
 ·rw[HF];exact h y x b1 Pg a2 (Z4 TR)
theorem fQ{r:List Pt}(h:Ri r):K6 r:=λk m h0 h1 h2 hn=>by
 rw[HF];exact h m k (S4 (by lia) (by lia) hn)
structure Rm(r:List Pt):Prop where
 l3:3<=r.length
 Ng:r.length<=12
 nd:r.Nodup
 LC:∀k:Int,AE (AA r (k-2)) (AA r (k-1)) (AA r k)≠0
 apart:Ri r
 Jt:0<Ds r
structure Keeps(T:Pt->Pt)(d:Int):Prop where
 one:d=1\/d = -1
 sd:∀a b c,AE (T a) (T b) (T c)=d*AE a b c
 at_:∀a b p,At (T a) (T b) (T p)↔At a b p
 inj:∀a b,T a=T b->a=b
theorem Keeps.on{T:Pt->Pt}{d:Int}(k:Keeps T d)(a b p:Pt):As (T a) (T b) (T p)=As a b p:=by
 rw[Bool.eq_iff_iff,GG,GG,QK,QK];exact k.at_ a b p
theorem Keeps.parts{T:Pt->Pt}{d:Int}(k:Keeps T d)(a b c e:Pt):AJ.parts (T a) (T b) (T c) (T e)=AJ.parts a b c e:=by
 unfold AJ.parts;rw[k.sd,k.sd];rcases k.one with rfl|rfl
 ·rw[Int.one_mul,Int.one_mul]
 ·rw[Bool.eq_iff_iff];simp only[Bool.or_eq_true,Bool.and_eq_true,decide_eq_true_eq];lia
theorem Keeps.meet{T:Pt->Pt}{d:Int}(k:Keeps T d)(a b c e:Pt):BZ (T a) (T b) (T c) (T e)=BZ a b c e:=by
 unfold BZ;rw[k.parts,k.parts,k.on,k.on,k.on,k.on]
theorem D6{T:Pt->Pt}{r:List Pt}(h:0<r.length)(i:Int):AA (r.map T) i=T (AA r i):=by
 unfold AA;rw[List.length_map];have a:=Int.emod_nonneg i (b:=(r.length:Int)) (by lia);have b:=Int.emod_lt_of_pos i (b:=(r.length:Int)) (by lia);have hi:(i%(r.length:Int)).toNat<r.length:=by lia
 simp[List.getD,hi]
theorem g7{r:List Pt}(h:0<r.length)(i:Int):AA r.reverse i=AA r (-1-i):=by
 unfold AA;rw[List.length_reverse];have a:=Int.emod_nonneg i (b:=(r.length:Int)) (by lia);have b:=Int.emod_lt_of_pos i (b:=(r.length:Int)) (by lia);have e:(-1-i)%(r.length:Int)=r.length-1-i%r.length:=by
  have : -1-i=(r.length-1-i%r.length)+r.length*(-(i / r.length)-1):=by
   have:=Int.mul_ediv_add_emod i r.length
   grind
  rw[this,Int.add_mul_emod_self_left,Int.emod_eq_of_lt (by lia) (by lia)]
 rw[e];have hi:(i%(r.length:Int)).toNat<r.length:=by lia
 have hj:(r.length-1-i%(r.length:Int)).toNat=r.length-1-(i%(r.length:Int)).toNat:=by lia
 rw[hj,List.getD,List.getD,List.getElem?_reverse hi]
theorem g8{r:List Pt}{n:Nat}(hn:n<=r.length)(h:0<r.length)(i:Int):AA (r.drop n++r.take n) i=AA r (i+n):=by
 have hl:(r.drop n++r.take n).length=r.length:=by simp;lia
 unfold AA;rw[hl,Int.add_emod i];have a:=Int.emod_nonneg i (b:=(r.length:Int)) (by lia);have b:=Int.emod_lt_of_pos i (b:=(r.length:Int)) (by lia);generalize hx:i%(r.length:Int)=x at *
 rw[List.getD,List.getD];by_cases Ti:n=r.length
 ·subst Ti;simp only[Int.emod_self,Int.add_zero,List.drop_length,List.take_length,List.nil_append];rw[Int.emod_eq_of_lt a b]
 rw[Int.emod_eq_of_lt (a:=(n:Int)) (by lia) (by lia)];by_cases hc:x+n<r.length
 ·rw[Int.emod_eq_of_lt (by lia) hc,List.getElem?_append_left (by simp;lia),List.getElem?_drop]
  congr 2;lia
 ·have e:(x+n)%(r.length:Int)=x+n-r.length:=by
   rw[<-Int.sub_emod_right,Int.emod_eq_of_lt (by lia) (by lia)]
  rw[e,List.getElem?_append_right (by simp;lia),List.getElem?_take,if_pos (by simp;lia)]
  congr 2;simp;lia
theorem B5{f g:Int->Int}:∀{n:Nat},(∀i:Nat,i<n->f i=g i)->AW f n=AW g n
 |0,_=>rfl
 |n+1,h=>by rw[AW,AW,B5 λi hi=>h i (by lia),h n (by lia)]
theorem Ew(f g:Int->Int):∀n:Nat,AW (λk=>f k+g k) n=AW f n+AW g n
 |0=>rfl
 |n+1=>by rw[AW,AW,AW,Ew f g n];lia
theorem OI(c:Int)(f:Int->Int):∀n:Nat,AW (λk=>c*f k) n=c*AW f n
 |0=>by simp[AW]
 |n+1=>by rw[AW,AW,OI c f n,Int.mul_add]
theorem IT(f:Int->Int):∀n:Nat,AW (λk=>f (k+1)-f k) n=f n-f 0
 |0=>by simp[AW]
 |n+1=>by
  rw[AW,IT f n];have:((n+1:Nat):Int)=n+1:=by lia
  rw[this];lia
theorem Vb(f:Int->Int)(n:Nat)(h:∀i,f (i+n)=f i):∀m:Nat,AW (λk=>f (k+m)) n=AW f n
 |0=>B5 λi _=>by simp
 |m+1=>by
  have ih:=Vb f n h m;have:=VZ (λk=>f (k+((m+1:Nat):Int))) n (λi=>by
   rw[show i+(n:Int)+((m+1:Nat):Int)=(i+((m+1:Nat):Int))+n by lia,h])
  rw[<-this,<-ih];exact B5 λi _=>by congr 1;lia
theorem cS(f:Int->Int):∀n:Nat,AW (λk=>f ((n:Int)-1-k)) n=AW f n
 |0=>rfl
 |n+1=>by
  have e1:AW (λk=>f (((n+1:Nat):Int)-1-k)) (n+1)=f n+AW (λk=>f ((n:Int)-1-k)) n:=by
   have hs:∀(g:Int->Int)(m:Nat),AW g (m+1)=g 0+AW (λk=>g (k+1)) m:=by
    intro g m
    induction m with
    |zero=>simp[AW]
    |succ m ih=>
     rw[AW,ih,AW];have:((m+1:Nat):Int)=m+1:=by lia
     rw[this];lia
   rw[hs]
   congr 1
   ·congr 1;lia
   ·exact B5 λi _=>by congr 1;lia
  rw[e1,cS f n,AW];lia
def Fx(r:List Pt)(k:Int):Int:=Br (AA r k) (AA r (k+1))
theorem gp(r:List Pt)(k:Int):Fx r (k+r.length)=Fx r k:=by
 unfold Fx;rw[E2,show k+(r.length:Int)+1=k+1+r.length by lia,E2]
theorem Mf(r:List Pt):Ds r=AW (Fx r) r.length:=rfl
theorem Rm.IQ{r:List Pt}(R:Rm r){n:Nat}(hn:n<=r.length):Rm (r.drop n++r.take n)/\Ds (r.drop n++r.take n)=Ds r:=by
 have h3:=R.l3;have hl:(r.drop n++r.take n).length=r.length:=by simp;lia
 have hc:=λi=>g8 (r:=r) hn (by lia) i;have ha:Ds (r.drop n++r.take n)=Ds r:=by
  rw[Mf,Mf,hl,<-Vb (Fx r) r.length (gp r) n];refine B5 λi _=>?_;unfold Fx;rw[hc,hc]
  congr 2;lia
 refine⟨⟨by lia,by have:=R.Ng;lia,?_,λk=>?_,λi j hf=>?_,by rw[ha];exact R.Jt⟩,ha⟩
 ·have hp:(r.drop n++r.take n).Perm r:=List.perm_append_comm.trans (by rw[List.take_append_drop]);exact hp.nodup_iff.mpr R.nd
 ·rw[hc,hc,hc,show k-2+n=k+n-2 by lia,show k-1+n=k+n-1 by lia];exact R.LC _
 ·rw[hl]at hf;have:=R.apart (i+n) (j+n) (by rw[show i+n-(j+n)=i-j by lia];exact hf);unfold M at this ⊢;rw[hc,hc,hc,hc,show i+1+n=i+n+1 by lia,show j+1+n=j+n+1 by lia];exact this
theorem aC{T:Pt->Pt}(hi:∀a b,T a=T b->a=b){r:List Pt}(h:r.Nodup):(r.map T).Nodup:=by
 unfold List.Nodup at h ⊢;rw[List.pairwise_map];exact h.imp λAw e=>Aw (hi _ _ e)
theorem gq(o a b:Pt):Br a b=AE o a b+(Br o b-Br o a):=by unfold Br AE;grind
theorem Oh(r:List Pt)(o:Pt):Ds r=AW (λk=>AE o (AA r k) (AA r (k+1))) r.length:=by
 rw[Mf];have h1:AW (Fx r) r.length=AW (λk=>AE o (AA r k) (AA r (k+1))+(Br o (AA r (k+1))-Br o (AA r k))) r.length:=B5 λi _=>by
  unfold Fx;exact gq o _ _
 rw[h1,Ew (λk=>AE o (AA r k) (AA r (k+1))) (λk=>Br o (AA r (k+1))-Br o (AA r k))];have h2:=IT (λk=>Br o (AA r k)) r.length;have h3:AA r ((r.length:Nat):Int)=AA r 0:=by
  have:=E2 r 0;rw[Int.zero_add]at this;exact this
 rw[h2,h3];lia
theorem Rm.map{r:List Pt}(R:Rm r){T:Pt->Pt}(k:Keeps T 1):Rm (r.map T):=by
 have h3:=R.l3;have hc:=λi=>D6 (T:=T) (r:=r) (by lia) i;refine⟨by simpa using R.l3,by simpa using R.Ng,aC k.inj R.nd,λi=>?_,λi j hf=>?_,?_⟩
 ·rw[hc,hc,hc,k.sd,Int.one_mul];exact R.LC i
 ·rw[List.length_map]at hf;unfold M;rw[hc,hc,hc,hc,k.meet];exact R.apart i j hf
 ·rw[Oh _ (T (0,0)),List.length_map];have:=R.Jt;rw[Oh r (0,0)]at this;rw[B5 (g:=λk=>AE (0,0) (AA r k) (AA r (k+1)))]
  ·exact this
  ·intro i _;rw[hc,hc,k.sd,Int.one_mul]
theorem tI(a b c:Pt):AE c b a = - AE a b c:=by unfold AE;grind
theorem aV(a b c d:Pt):AJ.parts b a d c=AJ.parts a b c d:=by
 unfold AJ.parts;rw[HA a b,HA a b,Bool.eq_iff_iff];simp only[Bool.or_eq_true,Bool.and_eq_true,decide_eq_true_eq];lia
theorem nX(a b c d:Pt):BZ b a d c=BZ a b c d:=by
 unfold BZ;rw[aV a b c d,aV c d a b,QJ b a d,QJ b a c,QJ d c b,QJ d c a,Bool.or_comm (As a b d),Bool.or_comm (As c d b)]
theorem Rm.mapRev{r:List Pt}(R:Rm r){T:Pt->Pt}(k:Keeps T (-1)):Rm (r.map T).reverse:=by
 have h3:=R.l3;have hl:(r.map T).reverse.length=r.length:=by simp
 have hc:∀i,AA (r.map T).reverse i=T (AA r (-1-i)):=λi=>by
  rw[g7 (by simpa using(by lia:0<r.length)),D6 (by lia)]
 refine⟨by lia,by have:=R.Ng;lia,?_,λi=>?_,λi j hf=>?_,?_⟩
 ·exact(List.reverse_perm _).nodup_iff.mpr (aC k.inj R.nd)
 ·rw[hc,hc,hc,k.sd,tI];have:=R.LC (-1-i+2);rw[show -1-i+2-2 = -1-i by lia,show -1-i+2-1 = -1-(i-1)by lia,show -1-i+2 = -1-(i-2)by lia]at this;lia
 ·rw[hl]at hf;unfold M;rw[hc,hc,hc,hc,k.meet,<-nX];have:=R.apart (-1-(i+1)) (-1-(j+1)) (by
   rw[show -1-(i+1)-(-1-(j+1)) = -(i-j)by lia];exact hf.neg (by lia))
  unfold M at this;rw[show -1-(i+1)+1 = -1-i by lia,show -1-(j+1)+1 = -1-j by lia]at this;exact this
 ·rw[Oh _ (T (0,0)),hl];have:=R.Jt;rw[Oh r (0,0)]at this;have e:AW (λk=>AE (T (0,0)) (AA (r.map T).reverse k) (AA (r.map T).reverse (k+1))) r.length=AW (λk=>AE (0,0) (AA r ((r.length:Int)-1-k-1)) (AA r ((r.length:Int)-1-k))) r.length:=B5 λi _=>by
   rw[hc,hc,k.sd];have e1:AA r (-1-(i:Int))=AA r ((r.length:Int)-1-i):=by
    rw[<-E2];congr 1;lia
   have e2:AA r (-1-((i:Int)+1))=AA r ((r.length:Int)-1-i-1):=by
    rw[<-E2];congr 1;lia
   rw[e1,e2];unfold AE;grind
  rw[e,cS (λk=>AE (0,0) (AA r (k-1)) (AA r k))];have:=VZ (λk=>AE (0,0) (AA r k) (AA r (k+1))) r.length (λi=>by
   rw[E2,show i+(r.length:Int)+1=i+1+r.length by lia,E2])
  have e3:AW (λk=>AE (0,0) (AA r (k-1)) (AA r k)) r.length=AW (λk=>AE (0,0) (AA r (k-1)) (AA r (k-1+1))) r.length:=B5 λi _=>by
   rw[show(i:Int)-1+1=i by lia]
  rw[e3,this];assumption
theorem wsum{q s a b m:Int}(h0:0<=s)(h1:s<=q)(ha:a<=m)(hb:b<=m):q*a+s*(b-a)<=q*m:=by
 have e:q*a+s*(b-a)=(q-s)*a+s*b:=by grind
 have e2:q*m=(q-s)*m+s*m:=by grind
 rw[e,e2];have:=Int.mul_le_mul_of_nonneg_left ha (by lia:0<=q-s);have:=Int.mul_le_mul_of_nonneg_left hb h0;lia
theorem OP{q s a b m:Int}(h0:0<=s)(h1:s<=q)(ha:m<=a)(hb:m<=b):q*m<=q*a+s*(b-a):=by
 have e:q*a+s*(b-a)=(q-s)*a+s*b:=by grind
 have e2:q*m=(q-s)*m+s*m:=by grind
 rw[e,e2];have:=Int.mul_le_mul_of_nonneg_left ha (by lia:0<=q-s);have:=Int.mul_le_mul_of_nonneg_left hb h0;lia
theorem Cs{a b c d:Pt}(m n:Int)(h1:a.1<=m)(h2:b.1<=m)(Tf:m<n)(h3:n<=c.1)(h4:n<=d.1):¬ B0 a b c d:=by
 rintro⟨q,s,t,hq,s0,s1,t0,t1,e1,_⟩;have u:=wsum s0 s1 h1 h2;have v:=OP t0 t1 h3 h4;have:=Int.mul_lt_mul_of_pos_left Tf hq;lia
theorem C1{a b c d:Pt}(m n:Int)(h1:a.2<=m)(h2:b.2<=m)(Tf:m<n)(h3:n<=c.2)(h4:n<=d.2):¬ B0 a b c d:=by
 rintro⟨q,s,t,hq,s0,s1,t0,t1,_,e2⟩;have u:=wsum s0 s1 h1 h2;have v:=OP t0 t1 h3 h4;have:=Int.mul_lt_mul_of_pos_left Tf hq;lia
structure Rows(n m:Nat)(P:Nat->Pt):Prop where
 hm:m+1<n
 h3:3<=n
 cl:P n=P 0
 xb:∀i,i<=m->(P i).1<(P (i+1)).1
 xt:∀i,m+1<=i->i<n->(P (i+1)).1<(P i).1
 y0:(P 0).2=0
 ym:(P (m+1)).2=0
 yb:∀i,1<=i->i<=m->(P i).2<0
 yt:∀i,m+2<=i->i<n->0<(P i).2
section
variable{n m:Nat}{P:Nat->Pt}(R:Rows n m P)
include R
theorem Rows.RE:∀{i j:Nat},i<=j->j<=m+1->(P i).1<=(P j).1:=by
 intro i j h hj
 induction j with
 |zero=>
  have:i=0:=by lia
  subst this;exact Int.le_refl _
 |succ j ih=>
  by_cases he:i=j+1
  ·subst he;exact Int.le_refl _
  ·have:=ih (by lia) (by lia);have:=R.xb j (by lia);lia
theorem Rows.ML:∀{i j:Nat},m+1<=i->i<=j->j<=n->(P j).1<=(P i).1:=by
 intro i j h1 h hj
 induction j with
 |zero=>lia
 |succ j ih=>
  by_cases he:i=j+1
  ·subst he;exact Int.le_refl _
  ·have:=ih (by lia) (by lia);have:=R.xt j (by lia) (by lia);lia
theorem Rows.OQ:∀{i:Nat},i<=m+1->(P i).2<=0:=by
 intro i hi;by_cases h0:i=0
 ·subst h0;exact Int.le_of_eq R.y0
 by_cases h1:i=m+1
 ·subst h1;exact Int.le_of_eq R.ym
 exact Int.le_of_lt (R.yb i (by lia) (by lia))
theorem Rows.RG:∀{i:Nat},m+1<=i->i<=n->0<=(P i).2:=by
 intro i hi hn;by_cases h0:i=n
 ·subst h0;rw[R.cl,R.y0];exact Int.le_refl _
 by_cases h1:i=m+1
 ·subst h1;exact Int.le_of_eq R.ym.symm
 exact Int.le_of_lt (R.yt i (by lia) (by lia))
theorem Rows.apart{i j:Nat}(Cg:i<j)(hj:j<n)(Aw:j≠i+1)(hw:¬ (i=0/\j=n-1)):¬ B0 (P i) (P (i+1)) (P j) (P (j+1)):=by
 have hm:=R.hm;by_cases Yl:j<=m
 ·-- both below
  exact Cs (P (i+1)).1 (P j).1 (R.RE (by lia) (by lia)) (Int.le_refl _) (by have:=R.xb (i+1) (by lia);have:=R.RE (i:=i+1+1) (j:=j) (by lia) (by lia);lia) (Int.le_refl _) (R.RE (by lia) (by lia))
 by_cases Yg:m+1<=i
 ·-- both above
  intro h;exact Cs (P j).1 (P (i+1)).1 (Int.le_refl _) (R.ML (by lia) (by lia) (by lia)) (by have:=R.xt (i+1) (by lia) (by lia);have:=R.ML (i:=i+1+1) (j:=j) (by lia) (by lia) (by lia);lia) (R.ML (by lia) (by lia) (by lia)) (Int.le_refl _) h.symm
 rintro⟨q,s,t,hq,s0,s1,t0,t1,e1,e2⟩;have ya:=R.OQ (i:=i) (by lia);have yb:=R.OQ (i:=i+1) (by lia);have yc:=R.RG (i:=j) (by lia) (by lia);have yd:=R.RG (i:=j+1) (by lia) (by lia);have u:=wsum (m:=0) s0 s1 ya yb;have v:=OP (m:=0) t0 t1 yc yd;have z:q*(P i).2+s*((P (i+1)).2-(P i).2)=0:=by lia
 have z':q*(P j).2+t*((P (j+1)).2-(P j).2)=0:=by lia
 have ez:q*(P i).2+s*((P (i+1)).2-(P i).2)=(q-s)*(P i).2+s*(P (i+1)).2:=by grind
 have xS:q*(P j).2+t*((P (j+1)).2-(P j).2)=(q-t)*(P j).2+t*(P (j+1)).2:=by grind
 have p1:(q-s)*(P i).2<=0:=Int.mul_nonpos_of_nonneg_of_nonpos (by lia) ya;have p2:s*(P (i+1)).2<=0:=Int.mul_nonpos_of_nonneg_of_nonpos s0 yb;have p3:0<=(q-t)*(P j).2:=Int.mul_nonneg (by lia) yc;have p4:0<=t*(P (j+1)).2:=Int.mul_nonneg t0 yd;have z1:(q-s)*(P i).2=0:=by omega
 have z2:s*(P (i+1)).2=0:=by lia
 have z3:(q-t)*(P j).2=0:=by omega
 have z4:t*(P (j+1)).2=0:=by lia
 have w1:1<=i->q=s:=λh=>by
  rcases Int.mul_eq_zero.mp z1 with h'|h'
  ·lia
  ·have:=R.yb i h (by lia);lia
 have w2:i+1<=m->s=0:=λh=>by
  rcases Int.mul_eq_zero.mp z2 with h'|h'
  ·exact h'
  ·have:=R.yb (i+1) (by lia) h;lia
 have w3:m+2<=j->q=t:=λh=>by
  rcases Int.mul_eq_zero.mp z3 with h'|h'
  ·lia
  ·have:=R.yt j h (by lia);lia
 have w4:j+1<n->t=0:=λh=>by
  rcases Int.mul_eq_zero.mp z4 with h'|h'
  ·exact h'
  ·have:=R.yt (j+1) (by lia) h;lia
 by_cases kr:i=0
 ·-- at Kt first Wx,or Kt Ji ft
  subst kr;have F3:j+1<n:=by lia
  have ht:=w4 F3;by_cases lG:m=0
  ·have:=w3 (by lia);lia
  ·have hs:=w2 (by lia);rw[hs,ht]at e1;simp only[Int.zero_mul,Int.add_zero]at e1;have Mr:(P 0).1=(P j).1:=Int.eq_of_mul_eq_mul_left (by lia) e1;have a:=R.xt j (by lia) (by lia);have b:=R.ML (i:=j+1) (j:=n) (by lia) (by lia) (by lia);rw[R.cl]at b;lia
 ·have hs:=w1 (by lia);by_cases ky:i=m
  ·subst ky;have k7:i+2<=j:=by lia
   have ht:=w3 k7;rw[<-hs,<-ht]at e1;have Mr:q*(P (i+1)).1=q*(P (j+1)).1:=by grind
   have xO:=Int.eq_of_mul_eq_mul_left (by lia) Mr;have a:=R.xt (i+1) (by lia) (by lia);have b:=R.ML (i:=i+1+1) (j:=j+1) (by lia) (by lia) (by lia);lia
  ·have:=w2 (by lia);lia
theorem Rows.Jt:0<AW (λk=>Br (P k.toNat) (P (k+1).toNat)) n:=by
 have hm:=R.hm;have e:∀N:Nat,AW (λk=>Br (P k.toNat) (P (k+1).toNat)) N=AW (λk=>((P k.toNat).1-(P (k+1).toNat).1)*((P k.toNat).2+(P (k+1).toNat).2)) N+((P N).1*(P N).2-(P 0).1*(P 0).2):=by
  intro N
  induction N with
  |zero=>simp[AW]
  |succ N ih=>
   rw[AW,AW,ih];have h1:((N:Int)).toNat=N:=by lia
   have h2:((N:Int)+1).toNat=N+1:=by lia
   rw[h1,h2];unfold Br
   grind
 rw[e n,R.cl];have nn:∀i:Nat,i<n->0<=((P i).1-(P (i+1)).1)*((P i).2+(P (i+1)).2):=λi hi=>by
  by_cases hb:i<=m
  ·have a:=R.xb i hb;have b:=R.OQ (i:=i) (by lia);have c:=R.OQ (i:=i+1) (by lia);exact Int.mul_nonneg_of_nonpos_of_nonpos (by lia) (by lia)
  ·have a:=R.xt i (by lia) hi;have b:=R.RG (i:=i) (by lia) (by lia);have c:=R.RG (i:=i+1) (by lia) (by lia);exact Int.mul_nonneg (by lia) (by lia)
 have pos:∃i:Nat,i<n/\0<((P i).1-(P (i+1)).1)*((P i).2+(P (i+1)).2):=by
  by_cases lG:m=0
  ·refine⟨m+1,by lia,?_⟩;have a:=R.xt (m+1) (by lia) (by lia);have b:=R.yt (m+1+1) (by lia) (by have:=R.h3;lia);have c:=R.ym;exact Int.mul_pos (by lia) (by lia)
  ·refine⟨0,by lia,?_⟩;have a:=R.xb 0 (by lia);have b:=R.yb (0+1) (by lia) (by lia);have c:=R.y0;exact Int.mul_pos_of_neg_of_neg (by lia) (by lia)
 have key:∀N:Nat,N<=n->0<=AW (λk=>((P k.toNat).1-(P (k+1).toNat).1)*((P k.toNat).2+(P (k+1).toNat).2)) N/\(∀i,i<N->0<((P i).1-(P (i+1)).1)*((P i).2+(P (i+1)).2)->0<AW (λk=>((P k.toNat).1-(P (k+1).toNat).1)*((P k.toNat).2+(P (k+1).toNat).2)) N):=by
  intro N
  induction N with
  |zero=>intro _;exact⟨by simp[AW],λi hi=>by lia⟩
  |succ N ih=>
   intro hN;obtain⟨i1,i2⟩:=ih (by lia);have h1:((N:Int)).toNat=N:=by lia
   have h2:((N:Int)+1).toNat=N+1:=by lia
   have:=nn N (by lia);rw[AW,h1,h2];refine⟨by lia,λi hi hp=>?_⟩;by_cases he:i=N
   ·subst he;lia
   ·have:=i2 i (by lia) hp;lia
 obtain⟨i,hi,hp⟩:=pos;have:=(key n (by lia)).2 i hi hp;lia
theorem Rows.inj{i j:Nat}(Cg:i<j)(hj:j<n):P i≠P j:=by
 intro e;have hm:=R.hm;by_cases Yl:j<=m+1
 ·have a:=R.xb i (by lia);have b:=R.RE (i:=i+1) (j:=j) (by lia) Yl;rw[e]at a;lia
 by_cases Yg:m+1<=i
 ·have a:=R.xt i Yg (by lia);have b:=R.ML (i:=i+1) (j:=j) (by lia) (by lia) (by lia);rw[e]at a;lia
 ·have a:=R.OQ (i:=i) (by lia);have b:=R.yt j (by lia) hj;rw[e]at a;lia
end
def Lt(a b c d:Pt):Prop:=∃q s t:Int,0<q/\0<=s/\s<=q/\0<=t/\t<=q/\q*a.2+s*(b.2-a.2)=q*c.2+t*(d.2-c.2)/\q*a.1+s*(b.1-a.1)<q*c.1+t*(d.1-c.1)
theorem Lz{x a b:Int}(hx:0<=x)(EZ:a<=b):a*x<=b*x:=Int.mul_le_mul_of_nonneg_right EZ hx
theorem UG{a b c d:Pt}(h1:Lt a b c d)(h2:Lt c d a b):∃q1 s1 t1 q2 s2 t2 x y:Int,0<x/\0<y/\0<q1/\0<q2/\0<=s1/\s1<=q1/\0<=s2/\s2<=q2/\0<=t1/\t1<=q1/\0<=t2/\t2<=q2/\q1*a.1+s1*(b.1-a.1)+x=q1*c.1+t1*(d.1-c.1)/\(q1*y+q2*x)*a.1+(s1*y+s2*x)*(b.1-a.1)=(q1*y+q2*x)*c.1+(t1*y+t2*x)*(d.1-c.1)/\(q1*y+q2*x)*a.2+(s1*y+s2*x)*(b.2-a.2)=(q1*y+q2*x)*c.2+(t1*y+t2*x)*(d.2-c.2):=by
 obtain⟨q1,s1,t1,NT,a1,a2,a3,a4,e1,l1⟩:=h1;obtain⟨q2,t2,s2,NU,b1,b2,b3,b4,e2,l2⟩:=h2;refine⟨q1,s1,t1,q2,s2,t2,q1*c.1+t1*(d.1-c.1)-(q1*a.1+s1*(b.1-a.1)),q2*a.1+s2*(b.1-a.1)-(q2*c.1+t2*(d.1-c.1)),by lia,by lia,NT,NU,a1,a2,b3,b4,a3,a4,b1,b2,by lia,by grind,?_⟩;generalize q1*c.1+t1*(d.1-c.1)-(q1*a.1+s1*(b.1-a.1))=x;generalize q2*a.1+s2*(b.1-a.1)-(q2*c.1+t2*(d.1-c.1))=y;have f1:(q1*y+q2*x)*a.2+(s1*y+s2*x)*(b.2-a.2)=y*(q1*a.2+s1*(b.2-a.2))+x*(q2*a.2+s2*(b.2-a.2)):=by grind
 have f2:(q1*y+q2*x)*c.2+(t1*y+t2*x)*(d.2-c.2)=y*(q1*c.2+t1*(d.2-c.2))+x*(q2*c.2+t2*(d.2-c.2)):=by grind
 rw[f1,f2,e1,<-e2]
theorem UL{a b c d:Pt}(h:¬ B0 a b c d)(h1:Lt a b c d):¬ Lt c d a b:=λh2=>by
 obtain⟨q1,s1,t1,q2,s2,t2,x,y,hx,hy,NT,NU,a1,a2,b1,b2,c1,c2,d1,d2,_,e1,e2⟩:=UG h1 h2;have p1:=Int.mul_pos NT hy;have p2:=Int.mul_pos NU hx;refine h ⟨_,_,_,by lia,?_,?_,?_,?_,e1,e2⟩
 ·have:=Int.mul_nonneg a1 (Int.le_of_lt hy);have:=Int.mul_nonneg b1 (Int.le_of_lt hx);lia
 ·have:=Lz (Int.le_of_lt hy) a2;have:=Lz (Int.le_of_lt hx) b2;lia
 ·have:=Int.mul_nonneg c1 (Int.le_of_lt hy);have:=Int.mul_nonneg d1 (Int.le_of_lt hx);lia
 ·have:=Lz (Int.le_of_lt hy) c2;have:=Lz (Int.le_of_lt hx) d2;lia
def CV(A X B:Pt):Prop:=∀s t:Int,0<=s->0<=t->s*(X.1-A.1)=t*(B.1-A.1)->s*(X.2-A.2)=t*(B.2-A.2)->s=0/\t=0
theorem M3{u v w:Pt}(hb:AE u v w≠0):CV v u w:=λs t _ _ e1 e2=>by
 have f1:s*AE u v w=0:=by
  have:s*AE u v w=(w.1-v.1)*(s*(u.2-v.2))-(w.2-v.2)*(s*(u.1-v.1)):=by unfold AE;grind
  rw[this,e1,e2];grind
 have f2:t*AE u v w=0:=by
  have:t*AE u v w=(v.1-u.1)*(t*(w.2-v.2))-(v.2-u.2)*(t*(w.1-v.1)):=by unfold AE;grind
  rw[this,<-e1,<-e2];grind
 exact⟨(Int.mul_eq_zero.mp f1).resolve_right hb,(Int.mul_eq_zero.mp f2).resolve_right hb⟩
theorem Rf{u v w:Pt}(f:CV v u w){q s t:Int}(sq:s<=q)(t0:0<=t)(e1:q*u.1+s*(v.1-u.1)=q*v.1+t*(w.1-v.1))(e2:q*u.2+s*(v.2-u.2)=q*v.2+t*(w.2-v.2)):s=q/\t=0:=by
 obtain⟨a,b⟩:=f (q-s) t (by lia) t0 (by grind) (by grind);exact⟨by lia,b⟩
theorem Z5{u v w:Pt}(hb:CV v u w)(h1:Lt u v v w):¬ Lt v w u v:=λh2=>by
 obtain⟨q1,s1,t1,q2,s2,t2,x,y,hx,hy,NT,NU,a1,a2,b1,b2,c1,c2,d1,d2,e0,e1,e2⟩:=UG h1 h2;have m1:=Lz (Int.le_of_lt hy) a2;have m2:=Lz (Int.le_of_lt hx) b2;have n1:=Int.mul_nonneg c1 (Int.le_of_lt hy);have n2:=Int.mul_nonneg d1 (Int.le_of_lt hx);obtain⟨hs,ht⟩:=Rf hb (by lia) (by lia) e1 e2;have k1:(q1-s1)*y=0:=by rw[Int.sub_mul];lia
 have Tw:s1=q1:=by
  rcases Int.mul_eq_zero.mp k1 with h|h<;>lia
 have k2:t1*y=0:=by lia
 have Gj:t1=0:=by
  rcases Int.mul_eq_zero.mp k2 with h|h<;>lia
 subst Tw;subst Gj;have f:s1*u.1+s1*(v.1-u.1)=s1*v.1:=by grind
 rw[f,Int.zero_mul]at e0;lia
def L(r:List Pt)(i j:Int):Prop:=Lt (AA r i) (AA r (i+1)) (AA r j) (AA r (j+1))
theorem An{r:List Pt}{i j:Int}(h:(i-j)%(r.length:Int)=0):AA r i=AA r j:=by
 unfold AA;have:i%(r.length:Int)=j%r.length:=Int.emod_eq_emod_iff_emod_sub_eq_zero.mpr h;rw[this]
structure BD(r:List Pt):Prop where
 l3:3<=r.length
 fork:∀k:Int,CV (AA r (k+1)) (AA r k) (AA r (k+1+1))
 hh:∀k:Int,(AA r k).2=(AA r (k+1)).2->(AA r (k+1)).2≠(AA r (k+1+1)).2
 apart:∀i j:Int,CN r.length (i-j)->¬ B0 (AA r i) (AA r (i+1)) (AA r j) (AA r (j+1))
section
variable{r:List Pt}(S:BD r)
include S
theorem BD.cases(i j:Int):(i-j)%(r.length:Int)=0\/(i-j)%(r.length:Int)=1\/(j-i)%(r.length:Int)=1\/CN r.length (i-j):=by
 have h3:=S.l3;have a:=Int.emod_nonneg (i-j) (b:=(r.length:Int)) (by lia);have b:=Int.emod_lt_of_pos (i-j) (b:=(r.length:Int)) (by lia);by_cases h0:(i-j)%(r.length:Int)=0
 ·exact .inl h0
 by_cases h1:(i-j)%(r.length:Int)=1
 ·exact .inr (.inl h1)
 by_cases h2:(i-j)%(r.length:Int)=r.length-1
 ·right;right;left;have:j-i=1+r.length*(-((i-j) / r.length)-1):=by
   have:=Int.mul_ediv_add_emod (i-j) r.length
   grind
  rw[this,Int.add_mul_emod_self_left,Int.emod_eq_of_lt (by lia) (by lia)]
 ·exact .inr (.inr (.inr ⟨h0,h1,h2⟩))
theorem BD.next{i j:Int}(h:(i-j)%(r.length:Int)=1):AA r i=AA r (j+1)/\AA r (i+1)=AA r (j+1+1):=by
 have h3:=S.l3;have e:(i-(j+1))%(r.length:Int)=0:=by
  rw[show i-(j+1)=(i-j)-1 by lia,Int.sub_emod,h,Int.emod_eq_of_lt (a:=1) (by lia) (by lia)];rfl
 exact⟨An e,An (by rw[show i+1-(j+1+1)=i-(j+1)by lia];exact e)⟩
theorem BD.nc{i j:Int}(Aw:(i-j)%(r.length:Int)≠0)(h1:L r i j):¬ L r j i:=by
 intro h2;rcases S.cases i j with h|h|h|h
 ·exact Aw h
 ·obtain⟨e1,e2⟩:=S.next h
  unfold L at h1 h2;rw[e1,e2]at h1 h2;exact Z5 (S.fork j) h2 h1
 ·obtain⟨e1,e2⟩:=S.next h
  unfold L at h1 h2;rw[e1,e2]at h1 h2;exact Z5 (S.fork i) h1 h2
 ·exact UL (S.apart i j h) h1 h2
theorem BD.share{i j:Int}(Aw:(i-j)%(r.length:Int)≠0){q s t:Int}(hq:0<q)(s0:0<=s)(s1:s<=q)(t0:0<=t)(t1:t<=q) (e1:q*(AA r i).1+s*((AA r (i+1)).1-(AA r i).1)=q*(AA r j).1+t*((AA r (j+1)).1-(AA r j).1)) (e2:q*(AA r i).2+s*((AA r (i+1)).2-(AA r i).2)=q*(AA r j).2+t*((AA r (j+1)).2-(AA r j).2)) : ((i-j)%(r.length:Int)=1/\s=0/\t=q)\/((j-i)%(r.length:Int)=1/\s=q/\t=0):=by
 rcases S.cases i j with h|h|h|h
 ·exact absurd h Aw
 ·obtain⟨f1,f2⟩:=S.next h
  rw[f1,f2]at e1 e2;obtain⟨g1,g2⟩:=Rf (S.fork j) t1 s0 e1.symm e2.symm;exact .inl ⟨h,g2,g1⟩
 ·obtain⟨f1,f2⟩:=S.next h
  rw[f1,f2]at e1 e2;obtain⟨g1,g2⟩:=Rf (S.fork i) s1 t0 e1 e2;exact .inr ⟨h,g1,g2⟩
 ·exact absurd ⟨q,s,t,hq,s0,s1,t0,t1,e1,e2⟩ (S.apart i j h)
end
theorem Fs(r:List Pt)(i:Int)(Aw:(AA r i).2≠(AA r (i+1)).2):¬ L r i i:=by
 rintro⟨q,s,t,hq,s0,s1,t0,t1,e1,l⟩;have:(s-t)*((AA r (i+1)).2-(AA r i).2)=0:=by grind
 rcases Int.mul_eq_zero.mp this with h|h
 ·have:s=t:=by lia
  subst this;lia
 ·lia
theorem cD{D z:Int}(h:(0<=z/\z<=D)\/(D<=z/\z<=0))(hD:D≠0):∃g:Int,(g=1\/g = -1)/\0<g*D/\0<=g*z/\g*z<=g*D:=by
 rcases Int.lt_or_gt_of_ne hD with h0|h0
 ·exact⟨-1,.inr rfl,by lia,by lia,by lia⟩
 ·exact⟨1,.inl rfl,by lia,by lia,by lia⟩
theorem Ws{a b z:Pt}(hD:b.1-a.1≠0)(hs:AE a b z=0)(hz:(0<=z.1-a.1/\z.1-a.1<=b.1-a.1)\/(b.1-a.1<=z.1-a.1/\z.1-a.1<=0)):On a b z:=by
 obtain⟨g,hg,p1,p2,p3⟩:=cD hz hD;refine Gw ⟨g*(b.1-a.1),g*(z.1-a.1),p1,p2,p3,by grind,?_⟩;unfold AE at hs;have:(b.1-a.1)*(z.2-a.2)=(b.2-a.2)*(z.1-a.1):=by lia
 grind
theorem Wt{a b c d:Pt}(hD:b.1-a.1≠0)(h1:AE a b c=0)(h2:AE a b d=0)(hz:(c.1<=a.1/\a.1<=d.1)\/(d.1<=a.1/\a.1<=c.1)):On c d a:=by
 unfold AE at h1 h2;have k1:(b.1-a.1)*(c.2-a.2)=(b.2-a.2)*(c.1-a.1):=by lia
 have k2:(b.1-a.1)*(d.2-a.2)=(b.2-a.2)*(d.1-a.1):=by lia
 by_cases C3:d.1-c.1=0
 ·have e:c.1-a.1=0:=by lia
  rw[e,Int.mul_zero]at k1;have e2:c.2-a.2=0:=by
   rcases Int.mul_eq_zero.mp k1 with h|h
   ·exact absurd h hD
   ·exact h
  exact Gw ⟨1,0,by lia,by lia,by lia,by lia,by lia⟩
 ·obtain⟨g,hg,p1,p2,p3⟩:=cD (D:=d.1-c.1) (z:=a.1-c.1) (by lia) C3;refine Gw ⟨g*(d.1-c.1),g*(a.1-c.1),p1,p2,p3,by grind,?_⟩;have k3:(b.1-a.1)*(g*(d.1-c.1)*(a.2-c.2)-g*(a.1-c.1)*(d.2-c.2))=0:=by
   have i1:(b.1-a.1)*(a.2-c.2)=(b.2-a.2)*(a.1-c.1):=by grind
   have i2:(b.1-a.1)*(d.2-c.2)=(b.2-a.2)*(d.1-c.1):=by grind
   have:(b.1-a.1)*(g*(d.1-c.1)*(a.2-c.2)-g*(a.1-c.1)*(d.2-c.2))=g*(d.1-c.1)*((b.1-a.1)*(a.2-c.2))-g*(a.1-c.1)*((b.1-a.1)*(d.2-c.2)):=by grind
   rw[this,i1,i2];grind
  rcases Int.mul_eq_zero.mp k3 with h|h
  ·exact absurd h hD
  ·omega
theorem gf{a b c d:Pt}(hD:b.1-a.1≠0)(h1:AE a b c=0)(h2:AE a b d=0):AE b a c=0/\AE b a d=0:=by
 rw[HA a b,HA a b,h1,h2];exact⟨rfl,rfl⟩
theorem Wu{a b c d:Pt}(hD:b.1-a.1≠0)(h1:AE a b c=0)(h2:AE a b d=0)(hs:B0 a b c d):On a b c\/On a b d\/On c d a\/On c d b:=by
 obtain⟨q,s,t,hq,s0,s1,t0,t1,e1,_⟩:=hs;have u1:=wsum (a:=a.1) (b:=b.1) (m:=max a.1 b.1) s0 s1 (by lia) (by lia);have u2:=OP (a:=a.1) (b:=b.1) (m:=min a.1 b.1) s0 s1 (by lia) (by lia);have v1:=wsum (a:=c.1) (b:=d.1) (m:=max c.1 d.1) t0 t1 (by lia) (by lia);have v2:=OP (a:=c.1) (b:=d.1) (m:=min c.1 d.1) t0 t1 (by lia) (by lia);have w1:min a.1 b.1<=max c.1 d.1:=Int.le_of_mul_le_mul_left (by lia) hq;have w2:min c.1 d.1<=max a.1 b.1:=Int.le_of_mul_le_mul_left (by lia) hq;by_cases hc:min a.1 b.1<=min c.1 d.1
 ·by_cases C3:c.1<=d.1
  ·exact .inl (Ws hD h1 (by lia))
  ·exact .inr (.inl (Ws hD h2 (by lia)))
 ·by_cases EZ:a.1<=b.1
  ·exact .inr (.inr (.inl (Wt hD h1 h2 (by lia))))
  ·obtain⟨g1,g2⟩:=gf hD h1 h2;exact .inr (.inr (.inr (Wt (a:=b) (b:=a) (by lia) g1 g2 (by lia))))
def sw(p:Pt):Pt:=(p.2,p.1)
theorem VT(a b c:Pt):AE (sw a) (sw b) (sw c) = - AE a b c:=by unfold AE sw;grind
theorem QL{a b p:Pt}(h:On (sw a) (sw b) (sw p)):On a b p:=by
 obtain⟨h1,h2,h3⟩:=h;rw[VT]at h1;exact⟨by lia,h3,h2⟩
theorem tG{a b c d:Pt}(h:B0 a b c d):B0 (sw a) (sw b) (sw c) (sw d):=by
 obtain⟨q,s,t,h1,h2,h3,h4,h5,e1,e2⟩:=h;exact⟨q,s,t,h1,h2,h3,h4,h5,e2,e1⟩
theorem UI{a b c d:Pt}(h:B0 a b c d):BZ a b c d=true:=by
 cases hm:BZ a b c d with
 |true=>rfl
 |false=>
  exfalso;have C5:¬ BZ a b c d=true:=by rw[hm];simp
  simp only[BZ,Bool.or_eq_true,Bool.and_eq_true,GG,not_or,not_and]at C5;obtain⟨hp,⟨n1,n2⟩,n3,n4⟩:=C5;obtain⟨q,s,t,hq,s0,s1,t0,t1,e1,e2⟩:=id h;have i1:AE a b c-AE a b d=AE c d b-AE c d a:=by unfold AE;grind
  have f1:(q-t)*AE a b c+t*AE a b d=0:=by
   have:(q-t)*AE a b c+t*AE a b d=(b.1-a.1)*(q*c.2+t*(d.2-c.2)-q*a.2)-(b.2-a.2)*(q*c.1+t*(d.1-c.1)-q*a.1):=by unfold AE;grind
   rw[this,<-e1,<-e2];grind
  have f2:(q-s)*AE c d a+s*AE c d b=0:=by
   have:(q-s)*AE c d a+s*AE c d b=(d.1-c.1)*(q*a.2+s*(b.2-a.2)-q*c.2)-(d.2-c.2)*(q*a.1+s*(b.1-a.1)-q*c.1):=by unfold AE;grind
   rw[this,e1,e2];grind
  have hc:t=0->On a b c:=λz=>by
   subst z;refine Gw ⟨q,s,hq,s0,s1,?_,?_⟩<;>grind
  have hd:t=q->On a b d:=λz=>by
   subst z;refine Gw ⟨t,s,hq,s0,s1,?_,?_⟩<;>grind
  have ha:s=0->On c d a:=λz=>by
   subst z;refine Gw ⟨q,t,hq,t0,t1,?_,?_⟩<;>grind
  have hb:s=q->On c d b:=λz=>by
   subst z;refine Gw ⟨s,t,hq,t0,t1,?_,?_⟩<;>grind
  have Pp:0<t:=by have z:t≠0:=λz=>n1 (hc z);lia
  have lj:0<q-t:=by have z:t≠q:=λz=>n2 (hd z);lia
  have Y6:0<s:=by have z:s≠0:=λz=>n3 (ha z);lia
  have Y9:0<q-s:=by have z:s≠q:=λz=>n4 (hb z);lia
  have UW:∀{x y u v:Int},0<u->0<v->u*x+v*y=0->(x=0/\y=0)\/(x<0/\0<y)\/(0<x/\y<0):=λ{x y u v} hu hv e=>by
   rcases Int.lt_trichotomy x 0 with hx|hx|hx
   ·right;left;refine⟨hx,?_⟩;have:=Int.mul_neg_of_pos_of_neg hu hx;by_cases h:0<y
    ·exact h
    ·have h:y<=0:=by lia
     have:=Int.mul_nonpos_of_nonneg_of_nonpos (Int.le_of_lt hv) h;lia
   ·left;subst hx;refine⟨rfl,?_⟩;have:v*y=0:=by lia
    rcases Int.mul_eq_zero.mp this with h|h
    ·lia
    ·exact h
   ·right;right;refine⟨hx,?_⟩;have:=Int.mul_pos hu hx;by_cases h:y<0
    ·exact h
    ·have h:0<=y:=by lia
     have:=Int.mul_nonneg (Int.le_of_lt hv) h;lia
  rcases UW lj Pp f1 with⟨z1,z2⟩|z|z
  ·-- on one line
   by_cases hD:b.1-a.1=0
   ·by_cases hE:b.2-a.2=0
    ·-- a Vr of one point
     refine n3 (Gw ⟨q,t,hq,t0,t1,?_,?_⟩)
     ·rw[hD]at e1;grind
     ·rw[hE]at e2;grind
    ·have k1:AE (sw a) (sw b) (sw c)=0:=by rw[VT,z1];rfl
     have k2:AE (sw a) (sw b) (sw d)=0:=by rw[VT,z2];rfl
     rcases Wu (a:=sw a) (b:=sw b) (c:=sw c) (d:=sw d) hE k1 k2 (tG h)with k|k|k|k
     ·exact n1 (QL k)
     ·exact n2 (QL k)
     ·exact n3 (QL k)
     ·exact n4 (QL k)
   ·rcases Wu hD z1 z2 h with k|k|k|k
    ·exact n1 k
    ·exact n2 k
    ·exact n3 k
    ·exact n4 k
  ·rcases UW Y9 Y6 f2 with⟨y1,y2⟩|y|y
   ·lia
   ·exact hp (by simp[parts];lia) (by simp[parts];lia)
   ·exact hp (by simp[parts];lia) (by simp[parts];lia)
  ·rcases UW Y9 Y6 f2 with⟨y1,y2⟩|y|y
   ·lia
   ·exact hp (by simp[parts];lia) (by simp[parts];lia)
   ·exact hp (by simp[parts];lia) (by simp[parts];lia)
theorem Rm.DP{r:List Pt}(R:Rm r)(k:Int):AE (AA r k) (AA r (k+1)) (AA r (k+1+1))≠0:=by
 have:=R.LC (k+1+1);rw[show k+1+1-2=k by lia,show k+1+1-1=k+1 by lia]at this;exact this
theorem Rm.simple{r:List Pt}(R:Rm r):BD r:=
 ⟨R.l3,λk=>M3 (R.DP k),λk h1 h2=>R.DP k (by unfold AE;rw[<-h2,h1];simp),λi j hf hs=>by
  have:=R.apart i j hf;unfold M at this;rw[UI hs]at this;cases this⟩
open Classical
def yy(r:List Pt)(i:Int):Int:=(AA r i).2
def AN(r:List Pt)(h i:Int):Int:=if yy r i<=h/\h<yy r (i+1)then 1 else if yy r (i+1)<=h/\h<yy r i then -1 else 0
noncomputable def ind(p:Prop):Int:=if p then 1 else 0
theorem Ay{p:Prop}(h:p):ind p=1:=if_pos h
theorem Aa{p:Prop}(h:¬ p):ind p=0:=if_neg h
noncomputable def Rr(r:List Pt)(h i:Int):Int:=AW (λj=>ind (L r i j)*AN r h j) r.length
theorem DN{r:List Pt}{i j:Int}(h:(i-j)%(r.length:Int)=0):yy r i=yy r j:=by unfold yy;rw[An h]
theorem Bx{n i j:Int}(h:(i-j)%n=0):(i+1-(j+1))%n=0:=by rw[show i+1-(j+1)=i-j by lia];exact h
theorem GJ{r:List Pt}{h i j:Int}(e:(i-j)%(r.length:Int)=0):AN r h i=AN r h j:=by
 unfold AN;rw[DN e,DN (Bx e)]
theorem Hl{r:List Pt}{i i' j j':Int}(e:(i-i')%(r.length:Int)=0)(f:(j-j')%(r.length:Int)=0):L r i j=L r i' j':=by
 unfold L;rw[An e,An (Bx e),An f,An (Bx f)]
theorem Qw(r:List Pt)(h j:Int):AN r h j-AN r (h-1) j=ind (yy r j=h)-ind (yy r (j+1)=h):=by
 unfold AN ind;generalize yy r j=a;generalize yy r (j+1)=b;by_cases h1:a=h<;>by_cases h2:b=h<;>simp only[h1,h2,if_true,if_false]<;>(repeat' split)<;>lia
theorem comb{u a b g1 g2 x y:Int}(hs:a=b+(x-y))(c1:(x=1/\g1=u)\/(x=0/\g1=0))(c2:(y=1/\g2=u)\/(y=0/\g2=0)):u*a=u*b+(g1-g2):=by
 rcases c1 with⟨rfl,rfl⟩|⟨rfl,rfl⟩<;>rcases c2 with⟨rfl,h⟩|⟨rfl,rfl⟩<;>(try subst h)<;>subst hs<;>grind
theorem Lv{a b c d:Pt}(h:Lt a b c c):Lt a b c d:=by
 obtain⟨q,s,t,h1,h2,h3,h4,h5,e,l⟩:=h;exact⟨q,s,0,h1,h2,h3,by lia,by lia,by grind,by grind⟩
theorem Nk{a b c d:Pt}(h:Lt a b d d):Lt a b c d:=by
 obtain⟨q,s,t,h1,h2,h3,h4,h5,e,l⟩:=h;exact⟨q,s,q,h1,h2,h3,by lia,by lia,by grind,by grind⟩
theorem P8{a b c d:Pt}(h:Lt a a c d):Lt a b c d:=by
 obtain⟨q,s,t,h1,h2,h3,h4,h5,e,l⟩:=h;exact⟨q,0,t,h1,by lia,by lia,h4,h5,by grind,by grind⟩
theorem UE{a b c d:Pt}(h:Lt b b c d):Lt a b c d:=by
 obtain⟨q,s,t,h1,h2,h3,h4,h5,e,l⟩:=h;exact⟨q,q,t,h1,by lia,by lia,h4,h5,by grind,by grind⟩
theorem L6{a b:Pt}{h:Int}(Aw:a.2≠b.2)(hr:(a.2<=h/\h<=b.2)\/(b.2<=h/\h<=a.2)):∃q s:Int,0<q/\0<=s/\s<=q/\q*a.2+s*(b.2-a.2)=q*h/\(s=0->h=a.2)/\(s=q->h=b.2):=by
 rcases Int.lt_or_gt_of_ne Aw with hl|hl
 ·exact⟨b.2-a.2,h-a.2,by lia,by lia,by lia,by grind,by lia,by lia⟩
 ·exact⟨a.2-b.2,a.2-h,by lia,by lia,by lia,by grind,by lia,by lia⟩
theorem Ua{a b:Pt}{h:Int}(hr:(a.2<=h/\h<b.2)\/(b.2<=h/\h<a.2)):∃q s:Int,0<q/\0<s/\s<q/\2*(q*a.2+s*(b.2-a.2))=q*(2*h+1):=by
 rcases hr with hl|hl
 ·exact⟨2*(b.2-a.2),2*h+1-2*a.2,by lia,by lia,by lia,by grind⟩
 ·exact⟨2*(a.2-b.2),2*a.2-(2*h+1),by lia,by lia,by lia,by grind⟩
theorem Dc{r:List Pt}{h i:Int}(hs:AN r h i≠0):(yy r i<=h/\h<yy r (i+1))\/(yy r (i+1)<=h/\h<yy r i):=by
 unfold AN at hs;by_cases h1:yy r i<=h/\h<yy r (i+1)
 ·exact .inl h1
 ·by_cases h2:yy r (i+1)<=h/\h<yy r i
  ·exact .inr h2
  ·rw[if_neg h1,if_neg h2]at hs;exact absurd rfl hs
section
variable{r:List Pt}(S:BD r)
include S
theorem BD.ON{h i j:Int}(Aw:(i-j)%(r.length:Int)≠0)(hi:AN r h i≠0)(hj:AN r h j≠0):L r i j\/L r j i:=by
 obtain⟨q1,s1,p1,p2,p3,e1⟩:=Ua (a:=AA r i) (b:=AA r (i+1)) (h:=h) (Dc hi);obtain⟨q2,s2,p4,p5,p6,e2⟩:=Ua (a:=AA r j) (b:=AA r (j+1)) (h:=h) (Dc hj);have m1:=Int.mul_pos p1 p4;have m2:=Int.mul_pos p2 p4;have m3:=Int.mul_pos p5 p1;have m4:s1*q2<q1*q2:=Int.mul_lt_mul_of_pos_right p3 p4;have m5:s2*q1<q1*q2:=by rw[Int.mul_comm q1];exact Int.mul_lt_mul_of_pos_right p6 p1
 have ey:q1*q2*(AA r i).2+s1*q2*((AA r (i+1)).2-(AA r i).2)=q1*q2*(AA r j).2+s2*q1*((AA r (j+1)).2-(AA r j).2):=by
  have f1:2*(q1*q2*(AA r i).2+s1*q2*((AA r (i+1)).2-(AA r i).2))=q2*(2*(q1*(AA r i).2+s1*((AA r (i+1)).2-(AA r i).2))):=by grind
  have f2:2*(q1*q2*(AA r j).2+s2*q1*((AA r (j+1)).2-(AA r j).2))=q1*(2*(q2*(AA r j).2+s2*((AA r (j+1)).2-(AA r j).2))):=by grind
  rw[e1]at f1;rw[e2]at f2;have:q2*(q1*(2*h+1))=q1*(q2*(2*h+1)):=by grind
  lia
 rcases Int.lt_trichotomy (q1*q2*(AA r i).1+s1*q2*((AA r (i+1)).1-(AA r i).1)) (q1*q2*(AA r j).1+s2*q1*((AA r (j+1)).1-(AA r j).1))with hl|he|hg
 ·exact .inl ⟨_,_,_,m1,by lia,by lia,by lia,by lia,ey,hl⟩
 ·rcases S.share Aw m1 (by lia) (by lia) (by lia) (by lia) he ey with⟨_,z,_⟩|⟨_,z,_⟩<;>lia
 ·exact .inr ⟨_,_,_,m1,by lia,by lia,by lia,by lia,ey.symm,hg⟩
theorem BD.off{m j:Int}(h0:(m-j)%(r.length:Int)≠0)(h1:(m-j)%(r.length:Int)≠1){q s:Int}(hq:0<q)(s0:0<=s)(s1:s<=q)(e2:q*(AA r j).2+s*((AA r (j+1)).2-(AA r j).2)=q*(AA r m).2):q*(AA r j).1+s*((AA r (j+1)).1-(AA r j).1)≠q*(AA r m).1:=by
 intro e1;rcases S.share h0 (q:=q) (s:=0) (t:=s) hq (by lia) (by lia) s0 s1 (by rw[e1];lia) (by rw[e2];lia)with⟨z,_⟩|⟨_,z,_⟩
 ·exact h1 z
 ·lia
theorem BD.OO{m i:Int}(h0:(m-i)%(r.length:Int)≠0)(h1:(m-i)%(r.length:Int)≠1)(Aw:yy r i≠yy r (i+1))(hr:(yy r i<=yy r m/\yy r m<=yy r (i+1))\/(yy r (i+1)<=yy r m/\yy r m<=yy r i)) : Lt (AA r i) (AA r (i+1)) (AA r m) (AA r m)\/Lt (AA r m) (AA r m) (AA r i) (AA r (i+1)):=by
 obtain⟨q,s,hq,s0,s1,e,_,_⟩:=L6 (a:=AA r i) (b:=AA r (i+1)) (h:=yy r m) Aw hr;have Aw:=S.off h0 h1 hq s0 s1 e;rcases Int.lt_or_gt_of_ne Aw with hl|hl
 ·exact .inl ⟨q,s,0,hq,s0,s1,by lia,by lia,by unfold yy at e;rw[e];lia,by lia⟩
 ·exact .inr ⟨q,0,s,hq,by lia,by lia,s0,s1,by unfold yy at e;rw[e];lia,by lia⟩
theorem BD.fH{h i:Int}(h1:AN r (h-1) i≠0)(h2:AN r h i≠0):Rr r h i=Rr r (h-1) i:=by
 have r1:=Dc h1;have r2:=Dc h2;have F6:(yy r i<h/\h<yy r (i+1))\/(yy r (i+1)<h/\h<yy r i):=by lia
 have key:∀j:Int,ind (L r i j)*AN r h j=ind (L r i j)*AN r (h-1) j+(ind (yy r j=h/\Lt (AA r i) (AA r (i+1)) (AA r j) (AA r j))-ind (yy r (j+1)=h/\Lt (AA r i) (AA r (i+1)) (AA r (j+1)) (AA r (j+1)))):=by
  intro j;have hd:=Qw r h j;by_cases Cg:(i-j)%(r.length:Int)=0
  ·have e1:=DN Cg;have e2:=DN (Bx Cg);have hL:¬ L r i j:=by
    rw[Hl (i':=i) (j':=i) (by simp) (by
     rw[show j-i = -(i-j)by lia];exact Int.emod_eq_zero_of_dvd (Int.dvd_neg.mpr (Int.dvd_of_emod_eq_zero Cg)))]
    exact Fs r i (by
     have:yy r i≠yy r (i+1):=by lia
     exact this)
   rw[Aa hL,Aa (by rintro⟨z,_⟩;lia),Aa (by rintro⟨z,_⟩;lia)];lia
  ·have jE:yy r j=h->ind (yy r j=h/\Lt (AA r i) (AA r (i+1)) (AA r j) (AA r j))=ind (L r i j):=λz=>by
    rcases S.OO (m:=j) (i:=i) (by
     intro c;apply Cg;rw[show i-j = -(j-i)by lia];exact Int.emod_eq_zero_of_dvd (Int.dvd_neg.mpr (Int.dvd_of_emod_eq_zero c))) (by
     intro c;have:=(S.next c).1;have:yy r j=yy r (i+1):=by unfold yy;rw[this]
     lia) (by lia) (by lia)with k|k
    ·rw[Ay ⟨z,k⟩,Ay (show L r i j from Lv k)]
    ·have n1:¬ L r i j:=λc=>S.nc Cg c (P8 k);rw[Aa n1,Aa (λc=>n1 (Lv c.2))]
   have jF:yy r (j+1)=h->ind (yy r (j+1)=h/\Lt (AA r i) (AA r (i+1)) (AA r (j+1)) (AA r (j+1)))=ind (L r i j):=λz=>by
    rcases S.OO (m:=j+1) (i:=i) (by
     intro c;have:=DN c;lia) (by
     intro c;apply Cg;rw[show j+1-i = -(i-j)+1 by lia]at c;have:(-(i-j)+1-1)%(r.length:Int)=0:=by rw[Int.sub_emod,c];simp
     rw[show -(i-j)+1-1 = -(i-j)by lia]at this;rw[show i-j = -(-(i-j))by lia];exact Int.emod_eq_zero_of_dvd (Int.dvd_neg.mpr (Int.dvd_of_emod_eq_zero this))) (by lia) (by lia)with k|k
    ·rw[Ay ⟨z,k⟩,Ay (show L r i j from Nk k)]
    ·have n1:¬ L r i j:=λc=>S.nc Cg c (UE k);rw[Aa n1,Aa (λc=>n1 (Nk c.2))]
   have hs:AN r h j=AN r (h-1) j+(ind (yy r j=h)-ind (yy r (j+1)=h)):=by lia
   refine comb hs ?_ ?_
   ·by_cases a1:yy r j=h
    ·exact .inl ⟨Ay a1,jE a1⟩
    ·exact .inr ⟨Aa a1,Aa (λc=>a1 c.1)⟩
   ·by_cases a2:yy r (j+1)=h
    ·exact .inl ⟨Ay a2,jF a2⟩
    ·exact .inr ⟨Aa a2,Aa (λc=>a2 c.1)⟩
 unfold Rr;rw[B5 (g:=λj=>ind (L r i j)*AN r (h-1) j+(ind (yy r j=h/\Lt (AA r i) (AA r (i+1)) (AA r j) (AA r j))-ind (yy r (j+1)=h/\Lt (AA r i) (AA r (i+1)) (AA r (j+1)) (AA r (j+1))))) λj _=>key j];rw[Ew (λj=>ind (L r i j)*AN r (h-1) j) (λj=>ind (yy r j=h/\Lt (AA r i) (AA r (i+1)) (AA r j) (AA r j))-ind (yy r (j+1)=h/\Lt (AA r i) (AA r (i+1)) (AA r (j+1)) (AA r (j+1))))];have ht:=IT (λj=>- ind (yy r j=h/\Lt (AA r i) (AA r (i+1)) (AA r j) (AA r j))) r.length;have hc:AA r (r.length:Int)=AA r 0:=An (by simp);have hy:yy r (r.length:Int)=yy r 0:=by unfold yy;rw[hc]
 rw[hc,hy]at ht;rw[B5 (g:=λj=>- ind (yy r (j+1)=h/\Lt (AA r i) (AA r (i+1)) (AA r (j+1)) (AA r (j+1))) - - ind (yy r j=h/\Lt (AA r i) (AA r (i+1)) (AA r j) (AA r j))) (f:=λj=>ind (yy r j=h/\Lt (AA r i) (AA r (i+1)) (AA r j) (AA r j))-ind (yy r (j+1)=h/\Lt (AA r i) (AA r (i+1)) (AA r (j+1)) (AA r (j+1)))) λj _=>by lia,ht];lia
end
theorem Q2{f:Int->Int}{n:Nat}(hn:0<n)(hp:∀a b:Int,(a-b)%(n:Int)=0->f a=f b)(i:Int):AW (λm=>f (i+m)) n=AW f n:=by
 have a:=Int.emod_nonneg i (b:=(n:Int)) (by lia);have h1:AW (λm=>f (i+m)) n=AW (λm=>f (m+((i%(n:Int)).toNat:Int))) n:=B5 λm _=>hp _ _ (by
  rw[Int.toNat_of_nonneg a,show i+(m:Int)-(m+i%(n:Int))=i-i%n by lia];have:=Int.mul_ediv_add_emod i n;have e:i-i%(n:Int)=n*(i / n):=by lia
  rw[e];exact Int.mul_emod_right _ _)
 rw[h1];exact Vb f n (λx=>hp _ _ (by rw[show x+(n:Int)-x=n by lia];exact Int.emod_self)) _
theorem Kq{f:Int->Int}:∀{n:Nat},(∀m:Nat,m<n->f m=0)->AW f n=0
 |0,_=>rfl
 |n+1,h=>by rw[AW,Kq λm hm=>h m (by lia),h n (by lia)];rfl
theorem OJ{f:Int->Int}{d:Nat}:∀{n:Nat},d<n->(∀m:Nat,m<n->m≠d->f m=0)->AW f n=f d
 |0,h,_=>by lia
 |n+1,h,hz=>by
  rw[AW];by_cases hd:d=n
  ·subst hd;rw[Kq λm hm=>hz m (by lia) (by lia)];lia
  ·rw[OJ (d:=d) (by lia) λm hm Aw=>hz m (by lia) Aw,hz n (by lia) (by lia)];lia
theorem Vd{f:Int->Int}{c d n:Nat}(hc:c<d)(hd:d<n)(hz:∀m:Nat,m<n->m≠c->m≠d->f m=0):AW f n=f c+f d:=by
 induction n with
 |zero=>lia
 |succ n ih=>
  rw[AW];by_cases h:d=n
  ·subst h;rw[OJ (d:=c) hc λm hm Aw=>hz m (by lia) Aw (by lia)]
  ·rw[ih (by lia) λm hm=>hz m (by lia),hz n (by lia) (by lia) (by lia)];lia
theorem Ci{n a b:Int}(h:(a-b)%n=0):(b-a)%n=0:=by
 rw[show b-a = -(a-b)by lia];exact Int.emod_eq_zero_of_dvd (Int.dvd_neg.mpr (Int.dvd_of_emod_eq_zero h))
theorem EK{n a b:Int}(hn:1<n)(h:(a-b)%n=1):(a-1-b)%n=0:=by
 rw[show a-1-b=(a-b)-1 by lia,Int.sub_emod,h,Int.emod_eq_of_lt (a:=1) (by lia) hn];rfl
structure RH(r:List Pt)(i k h:Int):Prop where
 kk:k=i+1\/(k=i+2/\yy r (i+1)=yy r (i+2))
 hi:yy r (i+1)=h
 hk:yy r k=h
 ni:yy r i≠h
 nk:yy r (k+1)≠h
section
variable{r:List Pt}(S:BD r){i k h:Int}(B:RH r i k h)
include S B
theorem BD.fo{j:Int}(n1:(i-j)%(r.length:Int)≠0)(n2:(k-j)%(r.length:Int)≠0)(n3:(i+1-j)%(r.length:Int)≠0){q s:Int}(hq:0<q)(s0:0<=s)(s1:s<=q)(e:q*(AA r j).2+s*((AA r (j+1)).2-(AA r j).2)=q*h) : (q*(AA r (i+1)).1<q*(AA r j).1+s*((AA r (j+1)).1-(AA r j).1)/\q*(AA r k).1<q*(AA r j).1+s*((AA r (j+1)).1-(AA r j).1))\/(q*(AA r j).1+s*((AA r (j+1)).1-(AA r j).1)<q*(AA r (i+1)).1/\q*(AA r j).1+s*((AA r (j+1)).1-(AA r j).1)<q*(AA r k).1):=by
 have h3:=S.l3;have hv:(AA r (i+1)).2=h:=B.hi;have hw:(AA r k).2=h:=B.hk;have o1:=S.off (m:=i+1) (j:=j) n3 (λc=>n1 (by have:=EK (by lia) c;rw[show i+1-1-j=i-j by lia]at this;exact this)) hq s0 s1 (by rw[hv];exact e);rcases B.kk with rfl|⟨rfl,hh⟩
 ·lia
 ·have o2:=S.off (m:=i+2) (j:=j) n2 (λc=>n3 (by have:=EK (by lia) c;rw[show i+2-1-j=i+1-j by lia]at this;exact this)) hq s0 s1 (by rw[hw];exact e);have WN:∀g:Int,(g=1\/g = -1)->0<g*((AA r j).1*q+s*((AA r (j+1)).1-(AA r j).1)-q*(AA r (i+1)).1)->0<g*(q*(AA r (i+2)).1-((AA r j).1*q+s*((AA r (j+1)).1-(AA r j).1)))->False:=by
   intro g hg p1 p2;have hW:0<g*((AA r (i+2)).1-(AA r (i+1)).1):=by
    have:q*(g*((AA r (i+2)).1-(AA r (i+1)).1))=g*((AA r j).1*q+s*((AA r (j+1)).1-(AA r j).1)-q*(AA r (i+1)).1)+g*(q*(AA r (i+2)).1-((AA r j).1*q+s*((AA r (j+1)).1-(AA r j).1))):=by grind
    have h':0<q*(g*((AA r (i+2)).1-(AA r (i+1)).1)):=by lia
    by_cases hc:0<g*((AA r (i+2)).1-(AA r (i+1)).1)
    ·exact hc
    ·have:=Int.mul_nonpos_of_nonneg_of_nonpos (Int.le_of_lt hq) (show g*((AA r (i+2)).1-(AA r (i+1)).1)<=0 by lia);lia
   have Xp:i+1+1=i+2:=by lia
   have hz:(AA r (i+2)).2-(AA r (i+1)).2=0:=by rw[hv,hw];lia
   rcases S.share (i:=i+1) (j:=j) n3 (q:=q*(g*((AA r (i+2)).1-(AA r (i+1)).1))) (s:=g*((AA r j).1*q+s*((AA r (j+1)).1-(AA r j).1)-q*(AA r (i+1)).1)) (t:=s*(g*((AA r (i+2)).1-(AA r (i+1)).1))) (Int.mul_pos hq hW) (by lia) (by
    have:q*(g*((AA r (i+2)).1-(AA r (i+1)).1))=g*((AA r j).1*q+s*((AA r (j+1)).1-(AA r j).1)-q*(AA r (i+1)).1)+g*(q*(AA r (i+2)).1-((AA r j).1*q+s*((AA r (j+1)).1-(AA r j).1))):=by grind
    lia) (Int.mul_nonneg s0 (Int.le_of_lt hW)) (Int.mul_le_mul_of_nonneg_right s1 (Int.le_of_lt hW)) (by rw[Xp];grind) (by
    rw[Xp,hz,Int.mul_zero,Int.add_zero,hv];have:q*(g*((AA r (i+2)).1-(AA r (i+1)).1))*(AA r j).2+s*(g*((AA r (i+2)).1-(AA r (i+1)).1))*((AA r (j+1)).2-(AA r j).2)=(g*((AA r (i+2)).1-(AA r (i+1)).1))*(q*(AA r j).2+s*((AA r (j+1)).2-(AA r j).2)):=by grind
    rw[this,e];grind)with⟨z,_⟩|⟨z,_⟩
   ·apply n1;have:=EK (by lia) z;rw[show i+1-1-j=i-j by lia]at this;exact this
   ·apply n2;have:=EK (by lia) z;have:=Ci this;rw[show i+1-(j-1)=i+2-j by lia]at this;exact this
  have a1:=WN 1 (.inl rfl);have a2:=WN (-1) (.inr rfl);rw[Int.mul_comm (AA r j).1 q]at a1 a2;generalize q*(AA r j).1+s*((AA r (j+1)).1-(AA r j).1)=X at *
  generalize q*(AA r (i+1)).1=V at *
  generalize q*(AA r (i+2)).1=W at *
  rcases Int.lt_or_gt_of_ne o1 with u|u<;>rcases Int.lt_or_gt_of_ne o2 with w|w
  ·exact .inr ⟨u,w⟩
  ·exact(a2 (by lia) (by lia)).elim
  ·exact(a1 (by lia) (by lia)).elim
  ·exact .inl ⟨u,w⟩
theorem BD.Rz{j:Int}(n1:(i-j)%(r.length:Int)≠0)(n2:(k-j)%(r.length:Int)≠0)(n3:(i+1-j)%(r.length:Int)≠0){q s:Int}(hq:0<q)(s0:0<=s)(s1:s<=q)(e:q*(AA r j).2+s*((AA r (j+1)).2-(AA r j).2)=q*h) : ((q*(AA r (i+1)).1<q*(AA r j).1+s*((AA r (j+1)).1-(AA r j).1)/\q*(AA r k).1<q*(AA r j).1+s*((AA r (j+1)).1-(AA r j).1))/\L r i j/\L r k j)\/((q*(AA r j).1+s*((AA r (j+1)).1-(AA r j).1)<q*(AA r (i+1)).1/\q*(AA r j).1+s*((AA r (j+1)).1-(AA r j).1)<q*(AA r k).1)/\¬ L r i j/\¬ L r k j):=by
 have hv:(AA r (i+1)).2=h:=B.hi;have hw:(AA r k).2=h:=B.hk;rcases S.fo B n1 n2 n3 hq s0 s1 e with z|z
 ·refine .inl ⟨z,UE ⟨q,0,s,hq,by lia,by lia,s0,s1,by rw[e,hv];lia,by lia⟩,P8 ⟨q,0,s,hq,by lia,by lia,s0,s1,by rw[e,hw];lia,by lia⟩⟩
 ·have l1:L r j i:=Nk ⟨q,s,0,hq,s0,s1,by lia,by lia,by rw[e,hv];lia,by lia⟩;have l2:L r j k:=Lv ⟨q,s,0,hq,s0,s1,by lia,by lia,by rw[e,hw];lia,by lia⟩;exact .inr ⟨z,λc=>S.nc n1 c l1,λc=>S.nc n2 c l2⟩
theorem BD.Ry{j:Int}(n1:(i-j)%(r.length:Int)≠0)(n2:(k-j)%(r.length:Int)≠0)(n3:(i+1-j)%(r.length:Int)≠0) : (ind (L r k j)*AN r h j=ind (L r i j)*AN r h j)/\(ind (L r k j)*AN r (h-1) j=ind (L r i j)*AN r (h-1) j)/\ind (L r i j)*AN r h j=ind (L r i j)*AN r (h-1) j+(ind (yy r j=h/\(AA r (i+1)).1<(AA r j).1/\(AA r k).1<(AA r j).1)-ind (yy r (j+1)=h/\(AA r (i+1)).1<(AA r (j+1)).1/\(AA r k).1<(AA r (j+1)).1)):=by
 have same:((yy r j<=h/\h<=yy r (j+1))\/(yy r (j+1)<=h/\h<=yy r j))->ind (L r k j)=ind (L r i j):=λhr=>by
  obtain⟨q,s,hq,s0,s1,e⟩:∃q s:Int,0<q/\0<=s/\s<=q/\q*(AA r j).2+s*((AA r (j+1)).2-(AA r j).2)=q*h:=by
   by_cases Aw:yy r j=yy r (j+1)
   ·refine⟨1,0,by lia,by lia,by lia,?_⟩;have:(AA r j).2=h:=by show yy r j=h;lia
    rw[this];lia
   ·obtain⟨q,s,a,b,c,d,_,_⟩:=L6 (a:=AA r j) (b:=AA r (j+1)) (h:=h) Aw hr;exact⟨q,s,a,b,c,d⟩
  rcases S.Rz B n1 n2 n3 hq s0 s1 e with⟨_,a,b⟩|⟨_,a,b⟩
  ·rw[Ay a,Ay b]
  ·rw[Aa a,Aa b]
 refine⟨?_,?_,?_⟩
 ·by_cases hz:AN r h j=0
  ·rw[hz,Int.mul_zero,Int.mul_zero]
  ·rw[same (by have:=Dc hz;lia)]
 ·by_cases hz:AN r (h-1) j=0
  ·rw[hz,Int.mul_zero,Int.mul_zero]
  ·rw[same (by have:=Dc hz;lia)]
 ·have hd:=Qw r h j;refine comb (x:=ind (yy r j=h)) (y:=ind (yy r (j+1)=h)) (by lia) ?_ ?_
  ·by_cases a1:yy r j=h
   ·refine .inl ⟨Ay a1,?_⟩;rcases S.Rz B n1 n2 n3 (q:=1) (s:=0) (by lia) (by lia) (by lia) (by rw[show(AA r j).2=h from a1];lia)with⟨a,b,_⟩|⟨a,b,_⟩
    ·rw[Ay b,Ay ⟨a1,by lia,by lia⟩]
    ·rw[Aa b,Aa (λc=>by have:=c.2.1;lia)]
   ·exact .inr ⟨Aa a1,Aa (λc=>a1 c.1)⟩
  ·by_cases a2:yy r (j+1)=h
   ·refine .inl ⟨Ay a2,?_⟩;rcases S.Rz B n1 n2 n3 (q:=1) (s:=1) (by lia) (by lia) (by lia) (by rw[show(AA r (j+1)).2=h from a2];lia)with⟨a,b,_⟩|⟨a,b,_⟩
    ·rw[Ay b,Ay ⟨a2,by lia,by lia⟩]
    ·rw[Aa b,Aa (λc=>by have:=c.2.1;lia)]
   ·exact .inr ⟨Aa a2,Aa (λc=>a2 c.1)⟩
end
section
variable{r:List Pt}(S:BD r){i k h:Int}(B:RH r i k h)
include S B
theorem BD.Rx(j:Int):(i-j)%(r.length:Int)=0\/(k-j)%(r.length:Int)=0\/((i+1-j)%(r.length:Int)=0/\yy r (i+1)=h/\yy r (i+1+1)=h/\AA r (i+1+1)=AA r k)\/((i-j)%(r.length:Int)≠0/\(k-j)%(r.length:Int)≠0/\(i+1-j)%(r.length:Int)≠0):=by
 by_cases h1:(i-j)%(r.length:Int)=0
 ·exact .inl h1
 by_cases h2:(k-j)%(r.length:Int)=0
 ·exact .inr (.inl h2)
 by_cases h3:(i+1-j)%(r.length:Int)=0
 ·rcases B.kk with e|⟨e,f⟩
  ·rw[e]at h2;exact absurd h3 h2
  ·refine .inr (.inr (.inl ⟨h3,B.hi,?_,?_⟩))
   ·have:=B.hk;rw[e]at this;rw[show i+1+1=i+2 by lia];exact this
   ·rw[e];congr 1;lia
 ·exact .inr (.inr (.inr ⟨h1,h2,h3⟩))
theorem BD.fm:(i-k)%(r.length:Int)≠0:=by
 have h3:=S.l3;intro c;have:=Ci c;rcases B.kk with e|⟨e,_⟩
 ·rw[e,show i+1-i=1 by lia,Int.emod_eq_of_lt (by lia) (by lia)]at this;lia
 ·rw[e,show i+2-i=2 by lia,Int.emod_eq_of_lt (by lia) (by lia)]at this;lia
theorem BD.aX(lo:yy r i<h/\h<yy r (k+1)\/h<yy r i/\yy r (k+1)<h):(yy r i<h->Rr r h k=Rr r (h-1) i)/\(h<yy r i->Rr r (h-1) k=Rr r h i):=by
 have Gp:∀j:Int,ind (yy r j=h/\(AA r (i+1)).1<(AA r j).1/\(AA r k).1<(AA r j).1)=ind (yy r j=h/\(AA r (i+1)).1<(AA r j).1/\(AA r k).1<(AA r j).1):=λ_=>rfl;have ht:=IT (λj=>- ind (yy r j=h/\(AA r (i+1)).1<(AA r j).1/\(AA r k).1<(AA r j).1)) r.length;have hc:AA r (r.length:Int)=AA r 0:=An (by simp);have hy:yy r (r.length:Int)=yy r 0:=by unfold yy;rw[hc]
 rw[hc,hy]at ht;have ZD:AW (λj=>ind (yy r j=h/\(AA r (i+1)).1<(AA r j).1/\(AA r k).1<(AA r j).1)-ind (yy r (j+1)=h/\(AA r (i+1)).1<(AA r (j+1)).1/\(AA r k).1<(AA r (j+1)).1)) r.length=0:=by
  rw[B5 (g:=λj=>- ind (yy r (j+1)=h/\(AA r (i+1)).1<(AA r (j+1)).1/\(AA r k).1<(AA r (j+1)).1) - - ind (yy r j=h/\(AA r (i+1)).1<(AA r j).1/\(AA r k).1<(AA r j).1)) λj _=>by lia,ht];lia
 have hi:=B.hi;have hk:=B.hk;have WX:∀j,(i-j)%(r.length:Int)=0->ind (yy r j=h/\(AA r (i+1)).1<(AA r j).1/\(AA r k).1<(AA r j).1)=0/\ind (yy r (j+1)=h/\(AA r (i+1)).1<(AA r (j+1)).1/\(AA r k).1<(AA r (j+1)).1)=0:=λj z=>by
  have z':=Ci z;rw[An z',An (Bx z'),DN z',DN (Bx z')];exact⟨Aa λc=>B.ni c.1,Aa λc=>by have:=c.2.1;lia⟩
 have WY:∀j,(k-j)%(r.length:Int)=0->ind (yy r j=h/\(AA r (i+1)).1<(AA r j).1/\(AA r k).1<(AA r j).1)=0/\ind (yy r (j+1)=h/\(AA r (i+1)).1<(AA r (j+1)).1/\(AA r k).1<(AA r (j+1)).1)=0:=λj z=>by
  have z':=Ci z;rw[An z',An (Bx z'),DN z',DN (Bx z')];exact⟨Aa λc=>by have:=c.2.2;lia,Aa λc=>B.nk c.1⟩
 have Pu:∀j,(i-j)%(r.length:Int)=0->ind (L r i j)=0:=λj z=>Aa (by
  rw[Hl (i':=i) (j':=i) (by simp) (Ci z)];exact Fs r i (by have:=B.ni;show yy r i≠yy r (i+1);lia))
 have Pw:∀j,(k-j)%(r.length:Int)=0->ind (L r k j)=0:=λj z=>Aa (by
  rw[Hl (i':=k) (j':=k) (by simp) (Ci z)];exact Fs r k (by have:=B.nk;show yy r k≠yy r (k+1);lia))
 have Y0:∀j,(i+1-j)%(r.length:Int)=0->yy r (i+1+1)=h->AA r (i+1+1)=AA r k->(AN r h j=0/\AN r (h-1) j=0)/\ind (yy r j=h/\(AA r (i+1)).1<(AA r j).1/\(AA r k).1<(AA r j).1)=0/\ind (yy r (j+1)=h/\(AA r (i+1)).1<(AA r (j+1)).1/\(AA r k).1<(AA r (j+1)).1)=0:=λj z y2 e=>by
  have z':=Ci z;rw[GJ z',GJ z',An z',An (Bx z'),DN z',DN (Bx z')];refine⟨⟨?_,?_⟩,Aa λc=>by have:=c.2.1;lia,Aa λc=>by have:=c.2.2;rw[e]at this;lia⟩
  ·unfold AN;rw[if_neg (by lia),if_neg (by lia)]
  ·unfold AN;rw[if_neg (by lia),if_neg (by lia)]
 constructor
 ·intro hl;have key:∀j:Int,ind (L r k j)*AN r h j=ind (L r i j)*AN r (h-1) j+(ind (yy r j=h/\(AA r (i+1)).1<(AA r j).1/\(AA r k).1<(AA r j).1)-ind (yy r (j+1)=h/\(AA r (i+1)).1<(AA r (j+1)).1/\(AA r k).1<(AA r (j+1)).1)):=λj=>by
   rcases S.Rx B j with z|z|⟨z,_,y2,e⟩|⟨z1,z2,z3⟩
   ·obtain⟨g1,g2⟩:=WX j z;rw[g1,g2,Pu j z,GJ (Ci z)];have:AN r h i=0:=by unfold AN;rw[if_neg (by lia),if_neg (by lia)]
    rw[this];lia
   ·obtain⟨g1,g2⟩:=WY j z;rw[g1,g2,Pw j z,GJ (h:=h-1) (Ci z)];have:AN r (h-1) k=0:=by unfold AN;rw[if_neg (by lia),if_neg (by lia)]
    rw[this];lia
   ·obtain⟨⟨s1,s2⟩,g1,g2⟩:=Y0 j z y2 e;rw[g1,g2,s1,s2];lia
   ·obtain⟨a,b,c⟩:=S.Ry B z1 z2 z3;rw[a,c]
  unfold Rr;rw[B5 (g:=λj=>ind (L r i j)*AN r (h-1) j+(ind (yy r j=h/\(AA r (i+1)).1<(AA r j).1/\(AA r k).1<(AA r j).1)-ind (yy r (j+1)=h/\(AA r (i+1)).1<(AA r (j+1)).1/\(AA r k).1<(AA r (j+1)).1))) λj _=>key j,Ew (λj=>ind (L r i j)*AN r (h-1) j) (λj=>ind (yy r j=h/\(AA r (i+1)).1<(AA r j).1/\(AA r k).1<(AA r j).1)-ind (yy r (j+1)=h/\(AA r (i+1)).1<(AA r (j+1)).1/\(AA r k).1<(AA r (j+1)).1)),ZD];lia
 ·intro hg;have key:∀j:Int,ind (L r i j)*AN r h j=ind (L r k j)*AN r (h-1) j+(ind (yy r j=h/\(AA r (i+1)).1<(AA r j).1/\(AA r k).1<(AA r j).1)-ind (yy r (j+1)=h/\(AA r (i+1)).1<(AA r (j+1)).1/\(AA r k).1<(AA r (j+1)).1)):=λj=>by
   rcases S.Rx B j with z|z|⟨z,_,y2,e⟩|⟨z1,z2,z3⟩
   ·obtain⟨g1,g2⟩:=WX j z;rw[g1,g2,Pu j z,GJ (h:=h-1) (Ci z)];have:AN r (h-1) i=0:=by unfold AN;rw[if_neg (by lia),if_neg (by lia)]
    rw[this];lia
   ·obtain⟨g1,g2⟩:=WY j z;rw[g1,g2,Pw j z,GJ (h:=h) (Ci z)];have:AN r h k=0:=by unfold AN;rw[if_neg (by lia),if_neg (by lia)]
    rw[this];lia
   ·obtain⟨⟨s1,s2⟩,g1,g2⟩:=Y0 j z y2 e;rw[g1,g2,s1,s2];lia
   ·obtain⟨a,b,c⟩:=S.Ry B z1 z2 z3;rw[b,c]
  unfold Rr;rw[B5 (f:=λj=>ind (L r i j)*AN r h j) (g:=λj=>ind (L r k j)*AN r (h-1) j+(ind (yy r j=h/\(AA r (i+1)).1<(AA r j).1/\(AA r k).1<(AA r j).1)-ind (yy r (j+1)=h/\(AA r (i+1)).1<(AA r (j+1)).1/\(AA r k).1<(AA r (j+1)).1))) λj _=>key j,Ew (λj=>ind (L r k j)*AN r (h-1) j) (λj=>ind (yy r j=h/\(AA r (i+1)).1<(AA r j).1/\(AA r k).1<(AA r j).1)-ind (yy r (j+1)=h/\(AA r (i+1)).1<(AA r (j+1)).1/\(AA r k).1<(AA r (j+1)).1)),ZD];lia
theorem BD.dC{H:Int}(hH:H=h\/H=h-1):Rr r H i-Rr r H k=ind (L r i k)*AN r H k-ind (L r k i)*AN r H i:=by
 have h3:=S.l3;have hi:=B.hi;have hk:=B.hk;have Pu:ind (L r i i)=0:=Aa (Fs r i (by have:=B.ni;show yy r i≠yy r (i+1);lia));have Pw:ind (L r k k)=0:=Aa (Fs r k (by have:=B.nk;show yy r k≠yy r (k+1);lia));have hp:∀a b:Int,(a-b)%(r.length:Int)=0->ind (L r i a)*AN r H a-ind (L r k a)*AN r H a=ind (L r i b)*AN r H b-ind (L r k b)*AN r H b:=λa b z=>by
  rw[Hl (i:=i) (i':=i) (by simp) z,Hl (i:=k) (i':=k) (by simp) z,GJ z]
 have hd:Rr r H i-Rr r H k=AW (λj=>ind (L r i j)*AN r H j-ind (L r k j)*AN r H j) r.length:=by
  unfold Rr;have:=Ew (λj=>ind (L r i j)*AN r H j-ind (L r k j)*AN r H j) (λj=>ind (L r k j)*AN r H j) r.length;rw[B5 (f:=λj=>ind (L r i j)*AN r H j-ind (L r k j)*AN r H j+ind (L r k j)*AN r H j) (g:=λj=>ind (L r i j)*AN r H j) λj _=>by lia]at this;lia
 rw[hd,<-Q2 (f:=λj=>ind (L r i j)*AN r H j-ind (L r k j)*AN r H j) (n:=r.length) (by lia) hp i];have zero:∀m:Nat,m<r.length->(m:Int)≠0->i+(m:Int)≠k->ind (L r i (i+(m:Int)))*AN r H (i+(m:Int))-ind (L r k (i+(m:Int)))*AN r H (i+(m:Int))=0:=λm hm m0 mk=>by
  have e0:(i-(i+(m:Int)))%(r.length:Int)≠0:=λc=>by
   have:=Ci c;rw[show i+(m:Int)-i=m by lia,Int.emod_eq_of_lt (by lia) (by lia)]at this;lia
  have e1:(k-(i+(m:Int)))%(r.length:Int)≠0:=λc=>by
   have c':=Ci c;rcases B.kk with e|⟨e,_⟩
   ·rw[e,show i+(m:Int)-(i+1)=m-1 by lia,Int.emod_eq_of_lt (by lia) (by lia)]at c';lia
   ·by_cases lH:(m:Int)=1
    ·rw[e,lH,show i+1-(i+2) = -1 by lia]at c';have:(-1:Int)%(r.length:Int)=r.length-1:=by
      rw[show(-1:Int)=(r.length-1)+r.length*(-1)by lia,Int.add_mul_emod_self_left,Int.emod_eq_of_lt (by lia) (by lia)]
     lia
    ·rw[e,show i+(m:Int)-(i+2)=m-2 by lia,Int.emod_eq_of_lt (by lia) (by lia)]at c';lia
  rcases S.Rx B (i+(m:Int))with z|z|⟨z,_,y2,_⟩|⟨z1,z2,z3⟩
  ·exact absurd z e0
  ·exact absurd z e1
  ·have z':=Ci z;have:AN r H (i+(m:Int))=0:=by
    rw[GJ z'];unfold AN;rw[if_neg (by lia),if_neg (by lia)]
   rw[this];lia
  ·obtain⟨a,b,_⟩:=S.Ry B z1 z2 z3;rcases hH with rfl|rfl<;>lia
 have t0:ind (L r i (i+(0:Int)))*AN r H (i+(0:Int))-ind (L r k (i+(0:Int)))*AN r H (i+(0:Int)) = - (ind (L r k i)*AN r H i):=by
  rw[Int.add_zero,Pu];lia
 have tk:ind (L r i k)*AN r H k-ind (L r k k)*AN r H k=ind (L r i k)*AN r H k:=by rw[Pw];lia
 rcases B.kk with e|⟨e,_⟩
 ·rw[Vd (c:=0) (d:=1) (by lia) (by lia) λm hm m0 m1=>zero m hm (by lia) (by lia)];show ind (L r i (i+(0:Int)))*AN r H (i+(0:Int))-ind (L r k (i+(0:Int)))*AN r H (i+(0:Int))+(ind (L r i (i+1))*AN r H (i+1)-ind (L r k (i+1))*AN r H (i+1))=_;rw[t0,<-e,tk];lia
 ·rw[Vd (c:=0) (d:=2) (by lia) (by lia) λm hm m0 m1=>zero m hm (by lia) (by lia)];show ind (L r i (i+(0:Int)))*AN r H (i+(0:Int))-ind (L r k (i+(0:Int)))*AN r H (i+(0:Int))+(ind (L r i (i+2))*AN r H (i+2)-ind (L r k (i+2))*AN r H (i+2))=_;rw[t0,<-e,tk];lia
theorem BD.aH{H:Int}(h1:AN r H i≠0)(h2:AN r H k≠0):(ind (L r i k)=1/\ind (L r k i)=0)\/(ind (L r i k)=0/\ind (L r k i)=1):=by
 have Aw:=S.fm B;rcases S.ON Aw h1 h2 with z|z
 ·exact .inl ⟨Ay z,Aa (S.nc Aw z)⟩
 ·exact .inr ⟨Aa λc=>S.nc Aw c z,Ay z⟩
end
noncomputable def cc(r:List Pt)(h i:Int):Int:=Rr r h i+ind (yy r i<yy r (i+1))
theorem gW{r:List Pt}{h i j:Int}(e:(i-j)%(r.length:Int)=0):cc r h i=cc r h j:=by
 unfold cc Rr;rw[DN e,DN (Bx e)]
 congr 1
 exact B5 λm _=>by rw[Hl e (show((m:Int)-m)%(r.length:Int)=0 by simp)]
theorem Fi{r:List Pt}{h i:Int}(h1:yy r i<=h)(h2:h<yy r (i+1)):AN r h i=1:=if_pos ⟨h1,h2⟩
theorem Fh{r:List Pt}{h i:Int}(h1:yy r (i+1)<=h)(h2:h<yy r i):AN r h i = -1:=by
 unfold AN;rw[if_neg (by lia),if_pos ⟨h1,h2⟩]
theorem JZ{r:List Pt}{h i:Int}(hr:(yy r i<=h/\h<yy r (i+1))\/(yy r (i+1)<=h/\h<yy r i)):AN r h i≠0:=by
 rcases hr with z|z
 ·rw[Fi z.1 z.2];lia
 ·rw[Fh z.1 z.2];lia
theorem PH{C:Nat->Prop}{N D:Nat->Int}(hD:∀j,C j->0<D j):∀n:Nat,(∃j,j<n/\C j)->∃e,e<n/\C e/\∀j,j<n->C j->N j*D e<=N e*D j
 |0,⟨j,h,_⟩=>by lia
 |n+1,⟨j,hj,hc⟩=>by
  by_cases hex:∃j,j<n/\C j
  ·obtain⟨e,he,ce,hm⟩:=PH (N:=N) hD n hex;by_cases hn:C n
   ·by_cases hle:N n*D e<=N e*D n
    ·exact⟨e,by lia,ce,λj hj cj=>by
      by_cases h:j=n
      ·subst h;exact hle
      ·exact hm j (by lia) cj⟩
    ·refine⟨n,by lia,hn,λj hj cj=>?_⟩;by_cases h:j=n
     ·subst h;exact Int.le_refl _
     ·have h1:=hm j (by lia) cj;have d1:=hD j cj;have d2:=hD e ce;have d3:=hD n hn;have m1:=Int.mul_le_mul_of_nonneg_right h1 (Int.le_of_lt d3);have m2:=Int.mul_le_mul_of_nonneg_right (show N e*D n<=N n*D e by lia) (Int.le_of_lt d1);have e1:N j*D e*D n=D e*(N j*D n):=by grind
      have e2:N e*D j*D n=N e*D n*D j:=by grind
      have e3:N n*D e*D j=D e*(N n*D j):=by grind
      exact Int.le_of_mul_le_mul_left (by lia) d2
   ·exact⟨e,by lia,ce,λj hj cj=>by
     by_cases h:j=n
     ·subst h;exact absurd cj hn
     ·exact hm j (by lia) cj⟩
  ·have F3:j=n:=by
    by_cases h:j=n
    ·exact h
    ·exact absurd ⟨j,by lia,hc⟩ hex
   subst F3;exact⟨j,by lia,hc,λm hm cm=>by
    by_cases h:m=j
    ·subst h;exact Int.le_refl _
    ·exact absurd ⟨m,by lia,cm⟩ hex⟩
section
variable{r:List Pt}(S:BD r)
include S
theorem BD.Ht{h h' i:Int}(h1:AN r h i≠0)(h2:AN r h' i≠0):cc r h i=cc r h' i:=by
 have main:∀(m:Nat)(h:Int),AN r h i≠0->AN r (h+m) i≠0->cc r (h+m) i=cc r h i:=by
  intro m
  induction m with
  |zero=>intro h _ _;simp
  |succ m ih=>
   intro h a b;have ra:=Dc a;have rb:=Dc b;have c:AN r (h+m) i≠0:=JZ (by lia);rw[<-ih h a c];have:=S.fH (h:=h+((m+1:Nat):Int)) (i:=i) (by rw[show h+((m+1:Nat):Int)-1=h+m by lia];exact c) b;unfold cc;rw[this,show h+((m+1:Nat):Int)-1=h+m by lia]
 rcases Int.le_total h h' with hl|hl
 ·have:=main (h'-h).toNat h h1 (by rw[Int.toNat_of_nonneg (by lia),show h+(h'-h)=h' by lia];exact h2);rw[Int.toNat_of_nonneg (by lia),show h+(h'-h)=h' by lia]at this;exact this.symm
 ·have:=main (h-h').toNat h' h2 (by rw[Int.toNat_of_nonneg (by lia),show h'+(h-h')=h by lia];exact h1);rw[Int.toNat_of_nonneg (by lia),show h'+(h-h')=h by lia]at this;exact this
theorem BD.Wi{i k h:Int}(B:RH r i k h){H1 H2:Int}(h1:AN r H1 i≠0)(h2:AN r H2 k≠0):cc r H1 i=cc r H2 k:=by
 have hi:=B.hi;have hk:=B.hk;have ni:=B.ni;have nk:=B.nk;rcases Int.lt_or_gt_of_ne ni with a|a<;>rcases Int.lt_or_gt_of_ne nk with b|b
 ·-- a top
  have s1:AN r (h-1) i=1:=Fi (by lia) (by lia);have s2:AN r (h-1) k = -1:=Fh (by lia) (by lia);rw[S.Ht h1 (h':=h-1) (by lia),S.Ht h2 (h':=h-1) (by lia)];have t:=S.dC B (H:=h-1) (.inr rfl);have o:=S.aH B (H:=h-1) (by lia) (by lia);rw[s1,s2]at t;unfold cc;rw[Ay (by lia:yy r i<yy r (i+1)),Aa (by lia:¬ yy r k<yy r (k+1))];rcases o with⟨o1,o2⟩|⟨o1,o2⟩<;>rw[o1,o2]at t<;>lia
 ·-- yY
  have s1:AN r (h-1) i=1:=Fi (by lia) (by lia);have s2:AN r h k=1:=Fi (by lia) (by lia);rw[S.Ht h1 (h':=h-1) (by lia),S.Ht h2 (h':=h) (by lia)];have t:=(S.aX B (.inl ⟨a,b⟩)).1 a;unfold cc;rw[Ay (by lia:yy r i<yy r (i+1)),Ay (by lia:yy r k<yy r (k+1)),t]
 ·-- xN
  have s1:AN r h i = -1:=Fh (by lia) (by lia);have s2:AN r (h-1) k = -1:=Fh (by lia) (by lia);rw[S.Ht h1 (h':=h) (by lia),S.Ht h2 (h':=h-1) (by lia)];have t:=(S.aX B (.inr ⟨a,b⟩)).2 a;unfold cc;rw[Aa (by lia:¬ yy r i<yy r (i+1)),Aa (by lia:¬ yy r k<yy r (k+1)),t]
 ·-- a ft
  have s1:AN r h i = -1:=Fh (by lia) (by lia);have s2:AN r h k=1:=Fi (by lia) (by lia);rw[S.Ht h1 (h':=h) (by lia),S.Ht h2 (h':=h) (by lia)];have t:=S.dC B (H:=h) (.inl rfl);have o:=S.aH B (H:=h) (by lia) (by lia);rw[s1,s2]at t;unfold cc;rw[Aa (by lia:¬ yy r i<yy r (i+1)),Ay (by lia:yy r k<yy r (k+1))];rcases o with⟨o1,o2⟩|⟨o1,o2⟩<;>rw[o1,o2]at t<;>lia
theorem BD.Sz{i:Int}(h:yy r i≠yy r (i+1)):∃H,AN r H i≠0:=by
 rcases Int.lt_or_gt_of_ne h with z|z
 ·exact⟨yy r i,JZ (.inl ⟨by lia,by lia⟩)⟩
 ·exact⟨yy r (i+1),JZ (.inr ⟨by lia,by lia⟩)⟩
theorem BD.gX{i0 H0:Int}(h0:AN r H0 i0≠0):∀(m:Nat)(H:Int),AN r H (i0+m)≠0->cc r H (i0+m)=cc r H0 i0:=by
 intro m
 induction m using Nat.strongRecOn with
 |ind m ih=>
  intro H hs;cases m with
  |zero=>rw[Int.natCast_zero,Int.add_zero]at hs ⊢;exact S.Ht hs h0
  |succ m=>
   have rs:=Dc hs;have e1:i0+((m+1:Nat):Int)=i0+m+1:=by lia
   rw[e1]at hs rs ⊢;by_cases hh:yy r (i0+m)=yy r (i0+m+1)
   ·-- a level wall ahead of it
    cases m with
    |zero=>
     have r0:=Dc h0;rw[Int.natCast_zero,Int.add_zero]at hh;lia
    |succ m=>
     have e2:i0+((m+1:Nat):Int)=i0+m+1:=by lia
     rw[e2]at hh rs hs ⊢;have Aw:yy r (i0+m)≠yy r (i0+m+1):=λc=>S.hh (i0+m) c hh;obtain⟨H1,s1⟩:=S.Sz Aw;have:=ih m (by lia) H1 s1;rw[<-this];exact(S.Wi (i:=i0+m) (k:=i0+m+1+1) (h:=yy r (i0+m+1)) ⟨.inr ⟨by lia,by rw[show i0+(m:Int)+2=i0+m+1+1 by lia];exact hh⟩,rfl,hh.symm,Aw,by lia⟩ s1 hs).symm
   ·obtain⟨H1,s1⟩:=S.Sz hh;have:=ih m (by lia) H1 s1;rw[<-this];exact(S.Wi (i:=i0+m) (k:=i0+m+1) (h:=yy r (i0+m+1)) ⟨.inl rfl,rfl,rfl,hh,by lia⟩ s1 hs).symm
theorem BD.Mm{i j H H':Int}(h1:AN r H i≠0)(h2:AN r H' j≠0):cc r H i=cc r H' j:=by
 have h3:=S.l3;have a:=Int.emod_nonneg (i-j) (b:=(r.length:Int)) (by lia);have e:(i-(j+((i-j)%(r.length:Int)).toNat))%(r.length:Int)=0:=by
  rw[Int.toNat_of_nonneg a,show i-(j+(i-j)%(r.length:Int))=(i-j)-(i-j)%r.length by lia];have:=Int.mul_ediv_add_emod (i-j) r.length;have e':(i-j)-(i-j)%(r.length:Int)=r.length*((i-j) / r.length):=by lia
  rw[e'];exact Int.mul_emod_right _ _
 rw[gW e];exact S.gX h2 _ H (by rw[<-GJ e];exact h1)
end
theorem Sy(r:List Pt)(h j:Int):∃z:Int×Int,AN r h j≠0->0<z.1/\0<z.2/\z.2<z.1/\2*(z.1*(AA r j).2+z.2*((AA r (j+1)).2-(AA r j).2))=z.1*(2*h+1):=by
 by_cases hs:AN r h j=0
 ·exact⟨(0,0),λc=>absurd hs c⟩
 ·obtain⟨q,s,a,b,c,d⟩:=Ua (a:=AA r j) (b:=AA r (j+1)) (h:=h) (Dc hs);exact⟨(q,s),λ_=>⟨a,b,c,d⟩⟩
noncomputable def kD(r:List Pt)(h j:Int):Int:=(choose (Sy r h j)).1
noncomputable def kS(r:List Pt)(h j:Int):Int:=(choose (Sy r h j)).2
noncomputable def kN(r:List Pt)(h j:Int):Int:=kD r h j*(AA r j).1+kS r h j*((AA r (j+1)).1-(AA r j).1)
theorem P4{r:List Pt}{h j:Int}(hs:AN r h j≠0):0<kD r h j/\0<kS r h j/\kS r h j<kD r h j/\2*(kD r h j*(AA r j).2+kS r h j*((AA r (j+1)).2-(AA r j).2))=kD r h j*(2*h+1):=choose_spec (Sy r h j) hs
section
variable{r:List Pt}(S:BD r)
include S
theorem BD.ZW{h i j:Int}(Aw:(i-j)%(r.length:Int)≠0)(hi:AN r h i≠0)(hj:AN r h j≠0)(hL:L r i j):kN r h i*kD r h j<kN r h j*kD r h i:=by
 obtain⟨p1,p2,p3,e1⟩:=P4 hi;obtain⟨p4,p5,p6,e2⟩:=P4 hj;have m1:=Int.mul_pos p1 p4;have m2:=Int.mul_pos p2 p4;have m3:=Int.mul_pos p5 p1;have m4:kS r h i*kD r h j<kD r h i*kD r h j:=Int.mul_lt_mul_of_pos_right p3 p4;have m5:kS r h j*kD r h i<kD r h i*kD r h j:=by rw[Int.mul_comm (kD r h i)];exact Int.mul_lt_mul_of_pos_right p6 p1
 have ey:kD r h i*kD r h j*(AA r i).2+kS r h i*kD r h j*((AA r (i+1)).2-(AA r i).2)=kD r h i*kD r h j*(AA r j).2+kS r h j*kD r h i*((AA r (j+1)).2-(AA r j).2):=by
  have f1:2*(kD r h i*kD r h j*(AA r i).2+kS r h i*kD r h j*((AA r (i+1)).2-(AA r i).2))=kD r h j*(2*(kD r h i*(AA r i).2+kS r h i*((AA r (i+1)).2-(AA r i).2))):=by grind
  have f2:2*(kD r h i*kD r h j*(AA r j).2+kS r h j*kD r h i*((AA r (j+1)).2-(AA r j).2))=kD r h i*(2*(kD r h j*(AA r j).2+kS r h j*((AA r (j+1)).2-(AA r j).2))):=by grind
  rw[e1]at f1;rw[e2]at f2;have:kD r h j*(kD r h i*(2*h+1))=kD r h i*(kD r h j*(2*h+1)):=by grind
  lia
 have n1:kN r h i*kD r h j=kD r h i*kD r h j*(AA r i).1+kS r h i*kD r h j*((AA r (i+1)).1-(AA r i).1):=by unfold kN;grind
 have n2:kN r h j*kD r h i=kD r h i*kD r h j*(AA r j).1+kS r h j*kD r h i*((AA r (j+1)).1-(AA r j).1):=by unfold kN;grind
 rw[n1,n2];rcases Int.lt_trichotomy (kD r h i*kD r h j*(AA r i).1+kS r h i*kD r h j*((AA r (i+1)).1-(AA r i).1)) (kD r h i*kD r h j*(AA r j).1+kS r h j*kD r h i*((AA r (j+1)).1-(AA r j).1))with hl|he|hg
 ·exact hl
 ·rcases S.share Aw m1 (by lia) (by lia) (by lia) (by lia) he ey with⟨_,z,_⟩|⟨_,z,_⟩<;>lia
 ·exact absurd (show L r j i from⟨_,_,_,m1,by lia,by lia,by lia,by lia,ey.symm,hg⟩) (S.nc Aw hL)
theorem BD.rg{h j:Int}(hj:AN r h j≠0):∃e:Int,AN r h e≠0/\Rr r h e=0:=by
 have h3:=S.l3;have a:=Int.emod_nonneg j (b:=(r.length:Int)) (by lia);have b:=Int.emod_lt_of_pos j (b:=(r.length:Int)) (by lia);have Cz:AN r h (((j%(r.length:Int)).toNat:Nat):Int)≠0:=by
  rw[Int.toNat_of_nonneg a,GJ (j:=j) (by
   have:=Int.mul_ediv_add_emod j r.length;have e':j%(r.length:Int)-j=r.length*(-(j / r.length)):=by grind
   rw[e'];exact Int.mul_emod_right _ _)]
  exact hj
 obtain⟨e,he,ce,hm⟩:=PH (C:=λm=>AN r h (m:Int)≠0) (N:=λm=>kN r h (m:Int)) (D:=λm=>kD r h (m:Int)) (λm hm=>(P4 hm).1) r.length ⟨_,by lia,Cz⟩;refine⟨e,ce,Kq λm C5=>?_⟩;by_cases hs:AN r h (m:Int)=0
 ·rw[hs,Int.mul_zero]
 ·have:¬ L r (e:Int) (m:Int):=λc=>by
   by_cases KN:((e:Int)-m)%(r.length:Int)=0
   ·rw[Hl (i:=(e:Int)) (i':=(e:Int)) (by simp) (Ci KN)]at c;exact Fs r e (by have:=Dc ce;show yy r e≠yy r (e+1);lia) c
   ·have k1:=S.ZW KN ce hs c;have k2:=hm m C5 hs;lia
  rw[Aa this];lia
theorem BD.Ml{h j:Int}(hj:AN r h j≠0):cc r h j=0\/cc r h j=1:=by
 obtain⟨e,he,hz⟩:=S.rg hj;rw[S.Mm hj he];unfold cc;rw[hz];by_cases hu:yy r e<yy r (e+1)
 ·rw[Ay hu];lia
 ·rw[Aa hu];lia
end
def fw(a b p:Pt):Int:=(if a.2<=p.2/\p.2<b.2/\AE a b p>0 then 1 else 0)-(if b.2<=p.2/\p.2<a.2/\AE a b p<0 then 1 else 0)
def W(r:List Pt)(p:Pt):Int:=AW (λj=>fw (AA r j) (AA r (j+1)) p) r.length
theorem Zw{a b p:Pt}(h:Lt p p a b):∃q x:Int,0<q/\0<x/\q*AE a b p=(b.2-a.2)*x:=by
 obtain⟨q,s,t,hq,_,_,_,_,e,l⟩:=h;refine⟨q,q*a.1+t*(b.1-a.1)-(q*p.1+s*(p.1-p.1)),hq,by lia,?_⟩;have e':q*(p.2-a.2)=t*(b.2-a.2):=by grind
 have:q*AE a b p=(b.1-a.1)*(q*(p.2-a.2))-(b.2-a.2)*(q*(p.1-a.1)):=by unfold AE;grind
 rw[this,e'];grind
theorem YQ{r:List Pt}{p:Pt}{j:Int}:fw (AA r j) (AA r (j+1)) p=AN r p.2 j*ind (Lt p p (AA r j) (AA r (j+1))):=by
 have up:yy r j<yy r (j+1)->yy r j<=p.2->p.2<=yy r (j+1)->(Lt p p (AA r j) (AA r (j+1))↔AE (AA r j) (AA r (j+1)) p>0):=λh1 h2 h3=>by
  constructor
  ·intro h;obtain⟨q,x,hq,hx,e⟩:=Zw h;have:=Int.mul_pos (show 0<(AA r (j+1)).2-(AA r j).2 by unfold yy at h1;lia) hx;by_cases hc:AE (AA r j) (AA r (j+1)) p>0
   ·exact hc
   ·have:=Int.mul_nonpos_of_nonneg_of_nonpos (Int.le_of_lt hq) (show AE (AA r j) (AA r (j+1)) p<=0 by lia);lia
  ·intro h;unfold yy at h1 h2 h3;exact⟨(AA r (j+1)).2-(AA r j).2,0,p.2-(AA r j).2,by lia,by lia,by lia,by lia,by lia,by grind,by unfold AE at h;grind⟩
 have dn:yy r (j+1)<yy r j->yy r (j+1)<=p.2->p.2<=yy r j->(Lt p p (AA r j) (AA r (j+1))↔AE (AA r j) (AA r (j+1)) p<0):=λh1 h2 h3=>by
  constructor
  ·intro h;obtain⟨q,x,hq,hx,e⟩:=Zw h;have:=Int.mul_neg_of_neg_of_pos (show(AA r (j+1)).2-(AA r j).2<0 by unfold yy at h1;lia) hx;by_cases hc:AE (AA r j) (AA r (j+1)) p<0
   ·exact hc
   ·have:=Int.mul_nonneg (Int.le_of_lt hq) (show 0<=AE (AA r j) (AA r (j+1)) p by lia);lia
  ·intro h;unfold yy at h1 h2 h3;exact⟨(AA r j).2-(AA r (j+1)).2,0,(AA r j).2-p.2,by lia,by lia,by lia,by lia,by lia,by grind,by unfold AE at h;grind⟩
 unfold fw;by_cases h1:yy r j<=p.2/\p.2<yy r (j+1)
 ·rw[Fi h1.1 h1.2,if_neg (show ¬ ((AA r (j+1)).2<=p.2/\p.2<(AA r j).2/\AE (AA r j) (AA r (j+1)) p<0)by unfold yy at h1;lia)];by_cases hs:AE (AA r j) (AA r (j+1)) p>0
  ·rw[if_pos ⟨h1.1,h1.2,hs⟩,Ay ((up (by lia) (by lia) (by lia)).mpr hs)];rfl
  ·rw[if_neg (λc=>hs c.2.2),Aa (λc=>hs ((up (by lia) (by lia) (by lia)).mp c))];rfl
 ·by_cases h2:yy r (j+1)<=p.2/\p.2<yy r j
  ·rw[Fh h2.1 h2.2,if_neg (show ¬ ((AA r j).2<=p.2/\p.2<(AA r (j+1)).2/\AE (AA r j) (AA r (j+1)) p>0)by unfold yy at h2;lia)];by_cases hs:AE (AA r j) (AA r (j+1)) p<0
   ·rw[if_pos ⟨h2.1,h2.2,hs⟩,Ay ((dn (by lia) (by lia) (by lia)).mpr hs)];rfl
   ·rw[if_neg (λc=>hs c.2.2),Aa (λc=>hs ((dn (by lia) (by lia) (by lia)).mp c))];rfl
  ·have:AN r p.2 j=0:=by unfold AN;rw[if_neg h1,if_neg h2]
   rw[this,if_neg (λc=>h1 ⟨c.1,c.2.1⟩),if_neg (λc=>h2 ⟨c.1,c.2.1⟩)];lia
section
variable{r:List Pt}(S:BD r){p:Pt}(hp:∀j:Int,¬ At (AA r j) (AA r (j+1)) p)
include S hp
theorem BD.vC{e j:Int}(he:AN r p.2 e≠0)(hj:AN r p.2 j≠0)(h1:Lt p p (AA r e) (AA r (e+1)))(h2:L r e j):Lt p p (AA r j) (AA r (j+1)):=by
 have Aw:(e-j)%(r.length:Int)≠0:=λc=>by
  rw[Hl (i:=e) (i':=e) (by simp) (Ci c)]at h2;exact Fs r e (by have:=Dc he;show yy r e≠yy r (e+1);lia) h2
 have rj:=Dc hj;obtain⟨q,s,hq,s0,s1,ey,_,_⟩:=L6 (a:=AA r j) (b:=AA r (j+1)) (h:=p.2) (by show yy r j≠yy r (j+1);lia) (by unfold yy at rj;lia);rcases Int.lt_trichotomy (q*p.1) (q*(AA r j).1+s*((AA r (j+1)).1-(AA r j).1))with hl|hx|hg
 ·exact⟨q,0,s,hq,by lia,by lia,s0,s1,by rw[ey];lia,by lia⟩
 ·exact absurd ⟨q,s,hq,s0,s1,by grind,by grind⟩ (hp j)
 ·exfalso;obtain⟨q',s',t',Lj,_,_,t0,t1,xR,l'⟩:=h1;have jP:q'*(AA r e).2+t'*((AA r (e+1)).2-(AA r e).2)=q'*p.2:=by grind
  have l2:q'*p.1<q'*(AA r e).1+t'*((AA r (e+1)).1-(AA r e).1):=by grind
  have m1:=Int.mul_lt_mul_of_pos_left hg Lj;have m2:=Int.mul_lt_mul_of_pos_left l2 hq;refine S.nc Aw h2 ⟨q*q',s*q',t'*q,Int.mul_pos hq Lj,Int.mul_nonneg s0 (Int.le_of_lt Lj),Int.mul_le_mul_of_nonneg_right s1 (Int.le_of_lt Lj),Int.mul_nonneg t0 (Int.le_of_lt hq),by rw[Int.mul_comm q];exact Int.mul_le_mul_of_nonneg_right t1 (Int.le_of_lt hq),?_,?_⟩
  ·have a1:q*q'*(AA r j).2+s*q'*((AA r (j+1)).2-(AA r j).2)=q'*(q*(AA r j).2+s*((AA r (j+1)).2-(AA r j).2)):=by grind
   have a2:q*q'*(AA r e).2+t'*q*((AA r (e+1)).2-(AA r e).2)=q*(q'*(AA r e).2+t'*((AA r (e+1)).2-(AA r e).2)):=by grind
   rw[a1,a2,ey,jP];grind
  ·have a1:q*q'*(AA r j).1+s*q'*((AA r (j+1)).1-(AA r j).1)=q'*(q*(AA r j).1+s*((AA r (j+1)).1-(AA r j).1)):=by grind
   have a2:q*q'*(AA r e).1+t'*q*((AA r (e+1)).1-(AA r e).1)=q*(q'*(AA r e).1+t'*((AA r (e+1)).1-(AA r e).1)):=by grind
   have a3:q'*(q*p.1)=q*(q'*p.1):=by grind
   rw[a1,a2];lia
theorem BD.once:W r p=0\/∃e:Int,AN r p.2 e≠0/\((yy r e<yy r (e+1)/\W r p=cc r p.2 e)\/(yy r (e+1)<yy r e/\W r p=cc r p.2 e-1)):=by
 have h3:=S.l3;have hW:W r p=AW (λj=>AN r p.2 j*ind (Lt p p (AA r j) (AA r (j+1)))) r.length:=B5 λj _=>YQ;by_cases hex:∃j:Nat,j<r.length/\(AN r p.2 (j:Int)≠0/\Lt p p (AA r (j:Int)) (AA r ((j:Int)+1)))
 ·right;obtain⟨e,he,⟨ce,le⟩,hm⟩:=PH (C:=λm=>AN r p.2 (m:Int)≠0/\Lt p p (AA r (m:Int)) (AA r ((m:Int)+1))) (N:=λm=>- kN r p.2 (m:Int)) (D:=λm=>kD r p.2 (m:Int)) (λm hm=>(P4 hm.1).1) r.length hex;have re:=Dc ce;have T7:=Fs r (e:Int) (by show yy r e≠yy r (e+1);lia);have key:∀m:Nat,m<r.length->AN r p.2 (m:Int)*ind (Lt p p (AA r (m:Int)) (AA r ((m:Int)+1)))=ind (L r (e:Int) (m:Int))*AN r p.2 (m:Int)+AN r p.2 (m:Int)*ind (m=e):=λm C5=>by
   by_cases hs:AN r p.2 (m:Int)=0
   ·rw[hs];lia
   ·by_cases JG:m=e
    ·subst JG;rw[Ay le,Aa T7,Ay rfl];lia
    ·rw[Aa JG];have KN:((e:Int)-m)%(r.length:Int)≠0:=λc=>by
      rcases Int.le_total (e:Int) m with z|z
      ·have c':=Ci c;rw[Int.emod_eq_of_lt (by lia) (by lia)]at c';lia
      ·rw[Int.emod_eq_of_lt (by lia) (by lia)]at c;lia
     by_cases hl:L r (e:Int) (m:Int)
     ·rw[Ay hl,Ay (S.vC hp ce hs le hl)];lia
     ·have NL:L r (m:Int) (e:Int):=by
       rcases S.ON KN ce hs with z|z
       ·exact absurd z hl
       ·exact z
      have hn:¬ Lt p p (AA r (m:Int)) (AA r ((m:Int)+1)):=λc=>by
       have k1:=S.ZW (λz=>KN (Ci z)) hs ce NL;have k2:=hm m C5 ⟨hs,c⟩;rw[Int.neg_mul,Int.neg_mul]at k2;lia
      rw[Aa hl,Aa hn];lia
  have Pn:W r p=Rr r p.2 e+AN r p.2 e:=by
   rw[hW,B5 (g:=λj=>ind (L r (e:Int) j)*AN r p.2 j+AN r p.2 j*ind (j=(e:Int))) λm C5=>by
    rw[key m C5]
    congr 2
    by_cases h:m=e
    ·rw[Ay h,Ay (by lia)]
    ·rw[Aa h,Aa (by lia)]]
   rw[Ew (λj=>ind (L r (e:Int) j)*AN r p.2 j) (λj=>AN r p.2 j*ind (j=(e:Int)))];rw[OJ (d:=e) (f:=λj=>AN r p.2 j*ind (j=(e:Int))) he λm _ Aw=>by rw[Aa (by lia)];lia];rw[Ay rfl,Int.mul_one]
   rfl
  refine⟨e,ce,?_⟩;unfold cc;rcases re with z|z
  ·rw[Fi z.1 z.2]at Pn;exact .inl ⟨by lia,by rw[Ay (by lia)];lia⟩
  ·rw[Fh z.1 z.2]at Pn;exact .inr ⟨by lia,by rw[Aa (by lia)];lia⟩
 ·left;rw[hW];refine Kq λm hm=>?_;by_cases hs:AN r p.2 (m:Int)=0
  ·rw[hs];lia
  ·rw[Aa λc=>hex ⟨m,hm,hs,c⟩];lia
theorem BD.fK : -1<=W r p/\W r p<=1:=by
 rcases S.once hp with h|⟨e,he,h|h⟩
 ·lia
 ·have:=S.Ml he;lia
 ·have:=S.Ml he;lia
end
theorem Vc(f:Int->Int->Int)(n:Nat):∀m:Nat,AW (λi=>AW (λj=>f i j) n) m=AW (λj=>AW (λi=>f i j) m) n
 |0=>(Kq λ_ _=>rfl).symm
 |m+1=>by
  rw[AW,Vc f n m];have:=Ew (λj=>AW (λi=>f i j) m) (λj=>f m j) n;exact this.symm
theorem Va{f:Int->Int}:∀{n:Nat},(∀i:Nat,i<n->f i<=0)->AW f n<=0
 |0,_=>Int.le_refl _
 |n+1,h=>by
  have:=Va (f:=f) (n:=n) λi hi=>h i (by lia);have:=h n (by lia);rw[AW];lia
theorem steps(A x:Int):∀m:Nat,A<=x->x<=A+m->x=A+AW (λt=>ind (x>A+t)) m
 |0,h1,h2=>by simp[AW];lia
 |m+1,h1,h2=>by
  rw[AW];by_cases h:x<=A+m
  ·have:=steps A x m h1 h;rw[Aa (by lia:¬ x>A+(m:Int))];lia
  ·rw[Ay (by lia:x>A+(m:Int))];have:AW (λt=>ind (x>A+t)) m=m:=by
    have CB:∀k:Nat,k<=m->AW (λt=>ind (x>A+t)) k=k:=by
     intro k
     induction k with
     |zero=>intro _;rfl
     |succ k ih=>
      intro hk;rw[AW,ih (by lia),Ay (by lia:x>A+(k:Int))];lia
    exact CB m (Nat.le_refl _)
   rw[this];lia
theorem fM{n m:Nat}{s x:Int->Int}{A:Int}(hx:∀j:Nat,j<n->s j≠0->A<=x j/\x j<=A+m)(h0:AW s n=0)(hw:∀t:Int,AW (λj=>s j*ind (x j>t)) n<=0):AW (λj=>s j*x j) n<=0:=by
 have e1:AW (λj=>s j*x j) n=AW (λj=>A*s j+AW (λt=>s j*ind (x j>A+t)) m) n:=B5 λj hj=>by
  by_cases hs:s j=0
  ·rw[hs,Kq λt _=>by lia];lia
  ·have:=steps A (x j) m (hx j hj hs).1 (hx j hj hs).2;rw[OI (s j) (λt=>ind (x j>A+t))];generalize AW (λt=>ind (x j>A+t)) m=z at *
   rw[this];grind
 rw[e1,Ew (λj=>A*s j) (λj=>AW (λt=>s j*ind (x j>A+t)) m),OI A s,h0];have e2:=Vc (λt j=>s j*ind (x j>A+t)) n m;rw[<-e2];have:=Va (f:=λt=>AW (λj=>s j*ind (x j>A+t)) n) (n:=m) λt _=>hw (A+t);lia
def Kf(f:Nat->Int):Nat->Int
 |0=>1
 |n+1=>Kf f n*f n
theorem au{f:Nat->Int}:∀{n:Nat},(∀i,i<n->0<f i)->0<Kf f n
 |0,_=>by show(0:Int)<1;decide
 |n+1,h=>Int.mul_pos (au λi hi=>h i (by lia)) (h n (by lia))
theorem ar{f:Nat->Int}{j:Nat}:∀{n:Nat},j<n->(∀i,i<n->0<f i)->∃k,0<k/\Kf f n=f j*k
 |0,h,_=>by lia
 |n+1,h,hp=>by
  by_cases hj:j=n
  ·subst hj;exact⟨Kf f j,au λi hi=>hp i (by lia),by rw[Kf,Int.mul_comm]⟩
  ·obtain⟨k,hk,e⟩:=ar (j:=j) (n:=n) (by lia) λi hi=>hp i (by lia)
   exact⟨k*f n,Int.mul_pos hk (hp n (by lia)),by rw[Kf,e,Int.mul_assoc]⟩
def eD(r:List Pt)(j:Int):Int:=if yy r j<yy r (j+1)then 2*(yy r (j+1)-yy r j)else if yy r (j+1)<yy r j then 2*(yy r j-yy r (j+1))else 1
def eS(r:List Pt)(h j:Int):Int:=if yy r j<yy r (j+1)then 2*h+1-2*yy r j else 2*yy r j-(2*h+1)
def eN(r:List Pt)(h j:Int):Int:=eD r j*(AA r j).1+eS r h j*((AA r (j+1)).1-(AA r j).1)
theorem O1(r:List Pt)(j:Int):0<eD r j:=by
 unfold eD;split
 ·lia
 ·split<;>lia
theorem Xq{r:List Pt}{h j:Int}(hs:AN r h j≠0):0<eD r j/\0<eS r h j/\eS r h j<eD r j/\2*(eD r j*(AA r j).2+eS r h j*((AA r (j+1)).2-(AA r j).2))=eD r j*(2*h+1):=by
 have rs:=Dc hs;unfold eD eS;rcases rs with z|z
 ·rw[if_pos (by lia),if_pos (by lia)];unfold yy at *
  refine⟨by lia,by lia,by lia,by grind⟩
 ·rw[if_neg (by lia),if_pos (by lia),if_neg (by lia)];unfold yy at *
  refine⟨by lia,by lia,by lia,by grind⟩
noncomputable def Ig(r:List Pt):Int:=Kf (λj=>eD r (j:Int)) r.length
theorem X8(r:List Pt)(j:Nat):∃k,j<r.length->0<k/\Ig r=eD r (j:Int)*k:=by
 by_cases h:j<r.length
 ·obtain⟨k,a,b⟩:=ar (f:=λj=>eD r (j:Int)) h λi _=>O1 r i
  exact⟨k,λ_=>⟨a,b⟩⟩
 ·exact⟨0,λc=>absurd c h⟩
noncomputable def kj(r:List Pt)(j:Nat):Int:=choose (X8 r j)
theorem P5{r:List Pt}{j:Nat}(h:j<r.length):0<kj r j/\Ig r=eD r (j:Int)*kj r j:=choose_spec (X8 r j) h
noncomputable def xk(r:List Pt)(h:Int)(j:Nat):Int:=kj r j*eN r h (j:Int)
section
variable{r:List Pt}(S:BD r)
include S
theorem BD.half_lt{h i j:Int}(Aw:(i-j)%(r.length:Int)≠0)(hi:AN r h i≠0)(hj:AN r h j≠0)(hL:L r i j):eN r h i*eD r j<eN r h j*eD r i:=by
 obtain⟨p1,p2,p3,e1⟩:=Xq hi;obtain⟨p4,p5,p6,e2⟩:=Xq hj;have m1:=Int.mul_pos p1 p4;have m2:=Int.mul_pos p2 p4;have m3:=Int.mul_pos p5 p1;have m4:eS r h i*eD r j<eD r i*eD r j:=Int.mul_lt_mul_of_pos_right p3 p4;have m5:eS r h j*eD r i<eD r i*eD r j:=by rw[Int.mul_comm (eD r i)];exact Int.mul_lt_mul_of_pos_right p6 p1
 have ey:eD r i*eD r j*(AA r i).2+eS r h i*eD r j*((AA r (i+1)).2-(AA r i).2)=eD r i*eD r j*(AA r j).2+eS r h j*eD r i*((AA r (j+1)).2-(AA r j).2):=by
  have f1:2*(eD r i*eD r j*(AA r i).2+eS r h i*eD r j*((AA r (i+1)).2-(AA r i).2))=eD r j*(2*(eD r i*(AA r i).2+eS r h i*((AA r (i+1)).2-(AA r i).2))):=by grind
  have f2:2*(eD r i*eD r j*(AA r j).2+eS r h j*eD r i*((AA r (j+1)).2-(AA r j).2))=eD r i*(2*(eD r j*(AA r j).2+eS r h j*((AA r (j+1)).2-(AA r j).2))):=by grind
  rw[e1]at f1;rw[e2]at f2;have:eD r j*(eD r i*(2*h+1))=eD r i*(eD r j*(2*h+1)):=by grind
  lia
 have n1:eN r h i*eD r j=eD r i*eD r j*(AA r i).1+eS r h i*eD r j*((AA r (i+1)).1-(AA r i).1):=by unfold eN;grind
 have n2:eN r h j*eD r i=eD r i*eD r j*(AA r j).1+eS r h j*eD r i*((AA r (j+1)).1-(AA r j).1):=by unfold eN;grind
 rw[n1,n2];rcases Int.lt_trichotomy (eD r i*eD r j*(AA r i).1+eS r h i*eD r j*((AA r (i+1)).1-(AA r i).1)) (eD r i*eD r j*(AA r j).1+eS r h j*eD r i*((AA r (j+1)).1-(AA r j).1))with hl|he|hg
 ·exact hl
 ·rcases S.share Aw m1 (by lia) (by lia) (by lia) (by lia) he ey with⟨_,z,_⟩|⟨_,z,_⟩<;>lia
 ·exact absurd (show L r j i from⟨_,_,_,m1,by lia,by lia,by lia,by lia,ey.symm,hg⟩) (S.nc Aw hL)
theorem BD.dg{h:Int}{i j:Nat}(C4:i<r.length)(Cz:j<r.length)(Cg:i≠j)(hi:AN r h (i:Int)≠0)(hj:AN r h (j:Int)≠0)(hL:L r (i:Int) (j:Int)):xk r h i<xk r h j:=by
 have Aw:((i:Int)-j)%(r.length:Int)≠0:=λc=>by
  rcases Int.le_total (i:Int) j with z|z
  ·have c':=Ci c;rw[Int.emod_eq_of_lt (by lia) (by lia)]at c';lia
  ·rw[Int.emod_eq_of_lt (by lia) (by lia)]at c;lia
 have k:=S.half_lt Aw hi hj hL;obtain⟨a1,a2⟩:=P5 C4;obtain⟨b1,b2⟩:=P5 Cz;have d1:=O1 r (i:Int);have d2:=O1 r (j:Int);have hK:0<Ig r:=by rw[a2];exact Int.mul_pos d1 a1
 have m:=Int.mul_lt_mul_of_pos_left k hK;have e1:Ig r*(eN r h i*eD r j)=(eD r i*eD r j)*xk r h i:=by rw[a2];unfold xk;grind
 have e2:Ig r*(eN r h j*eD r i)=(eD r i*eD r j)*xk r h j:=by rw[b2];unfold xk;grind
 rw[e1,e2]at m;exact Int.lt_of_mul_lt_mul_left m (Int.le_of_lt (Int.mul_pos d1 d2))
theorem so(r:List Pt)(h j:Int):AN r h j=ind (yy r j<=h)-ind (yy r (j+1)<=h):=by
 unfold AN ind;generalize yy r j=a;generalize yy r (j+1)=b
 (repeat' split)<;>lia
theorem BD.nI{h:Int}(hc:∀j:Int,AN r h j≠0->cc r h j=0):AW (λj=>AN r h j*xk r h j.toNat) r.length<=0:=by
 have h3:=S.l3;have h0:AW (AN r h) r.length=0:=by
  have ht:=IT (λj=>- ind (yy r j<=h)) r.length;have hy:yy r (r.length:Int)=yy r 0:=DN (by simp);rw[hy]at ht;rw[B5 (g:=λj=>- ind (yy r (j+1)<=h) - - ind (yy r j<=h)) λj _=>by rw[so S];lia,ht];lia
 obtain⟨A,m,hb⟩:∃(A:Int)(m:Nat),∀j:Nat,j<r.length->A<=xk r h j/\xk r h j<=A+m:=by
  have:∀n:Nat,∃b:Int,0<=b/\∀j:Nat,j<n->-b<=xk r h j/\xk r h j<=b:=by
   intro n
   induction n with
   |zero=>exact⟨0,by lia,λj hj=>by lia⟩
   |succ n ih=>
    obtain⟨b,b0,hb⟩:=ih;refine⟨b+(xk r h n).natAbs,by lia,λj hj=>?_⟩;by_cases F3:j=n
    ·subst F3;lia
    ·have:=hb j (by lia);lia
  obtain⟨b,b0,hb⟩:=this r.length;exact⟨-b,(2*b).toNat,λj hj=>by have:=hb j hj;lia⟩
 refine fM (x:=λj=>xk r h j.toNat) (A:=A) (m:=m) (λj hj _=>by rw[Int.toNat_natCast];exact hb j hj) h0 λt=>?_;by_cases hex:∃j:Nat,j<r.length/\(AN r h (j:Int)≠0/\xk r h j>t)
 ·obtain⟨e,he,⟨ce,le⟩,hm⟩:=PH (C:=λm=>AN r h (m:Int)≠0/\xk r h m>t) (N:=λm=>- xk r h m) (D:=λ_=>1) (λ_ _=>by decide) r.length hex;have re:=Dc ce;have T7:=Fs r (e:Int) (by show yy r e≠yy r (e+1);lia);have key:∀m:Nat,m<r.length->AN r h (m:Int)*ind (xk r h ((m:Int)).toNat>t)=ind (L r (e:Int) (m:Int))*AN r h (m:Int)+AN r h (m:Int)*ind ((m:Int)=(e:Int)):=λm C5=>by
   rw[Int.toNat_natCast];by_cases hs:AN r h (m:Int)=0
   ·rw[hs];lia
   ·by_cases JG:m=e
    ·subst JG;rw[Ay le,Aa T7,Ay rfl];lia
    ·rw[Aa (show ¬ (m:Int)=(e:Int)by lia)];have KN:((e:Int)-m)%(r.length:Int)≠0:=λc=>by
      rcases Int.le_total (e:Int) m with z|z
      ·have c':=Ci c;rw[Int.emod_eq_of_lt (by lia) (by lia)]at c';lia
      ·rw[Int.emod_eq_of_lt (by lia) (by lia)]at c;lia
     by_cases hl:L r (e:Int) (m:Int)
     ·have:=S.dg he C5 (λz=>JG z.symm) ce hs hl;rw[Ay hl,Ay (show xk r h m>t by lia)];lia
     ·have NL:L r (m:Int) (e:Int):=by
       rcases S.ON KN ce hs with z|z
       ·exact absurd z hl
       ·exact z
      have k1:=S.dg C5 he JG hs ce NL;have hn:¬ xk r h m>t:=λc=>by
       have k2:=hm m C5 ⟨hs,c⟩;lia
      rw[Aa hl,Aa hn];lia
  have Pn:AW (λj=>AN r h j*ind (xk r h j.toNat>t)) r.length=Rr r h e+AN r h e:=by
   rw[B5 (g:=λj=>ind (L r (e:Int) j)*AN r h j+AN r h j*ind (j=(e:Int))) λm C5=>key m C5];rw[Ew (λj=>ind (L r (e:Int) j)*AN r h j) (λj=>AN r h j*ind (j=(e:Int)))];rw[OJ (d:=e) (f:=λj=>AN r h j*ind (j=(e:Int))) he λm _ Aw=>by rw[Aa (by lia)];lia];rw[Ay rfl,Int.mul_one]
   rfl
  have E6:=hc e ce;unfold cc at E6;show AW (λj=>AN r h j*ind (xk r h j.toNat>t)) r.length<=0;rw[Pn];rcases re with z|z
  ·rw[Fi z.1 z.2];rw[Ay (by lia)]at E6;lia
  ·rw[Fh z.1 z.2];rw[Aa (by lia)]at E6;lia
 ·refine Int.le_of_eq (Kq λm hm=>?_);show AN r h (m:Int)*ind (xk r h ((m:Int)).toNat>t)=0;rw[Int.toNat_natCast];by_cases hs:AN r h (m:Int)=0
  ·rw[hs];lia
  ·rw[Aa λc=>hex ⟨m,hm,hs,c⟩];lia
end
theorem jA{r:List Pt}{j:Nat}(hj:j<r.length){lo:Int}(lD:lo<=yy r j/\lo<=yy r (j+1)):∀m:Nat,∃k:Int,(yy r (j:Int)<yy r (j+1)->k=min (max (lo+m-yy r j) 0) (yy r (j+1)-yy r j))/\(yy r ((j:Int)+1)<yy r j->k=min (max (lo+m-yy r (j+1)) 0) (yy r j-yy r (j+1)))/\(yy r (j:Int)<yy r (j+1)->AW (λt=>AN r (lo+t) j*xk r (lo+t) j) m=kj r j*(2*(yy r (j+1)-yy r j)*(AA r j).1*k+k*k*((AA r (j+1)).1-(AA r j).1)))/\
 (yy r ((j:Int)+1)<yy r j->AW (λt=>AN r (lo+t) j*xk r (lo+t) j) m = - (kj r j*(2*(yy r j-yy r (j+1))*(AA r j).1*k+(2*(yy r j-yy r (j+1))*k-k*k)*((AA r (j+1)).1-(AA r j).1))))/\
 (yy r (j:Int)=yy r (j+1)->AW (λt=>AN r (lo+t) j*xk r (lo+t) j) m=0):=by
 intro m
 induction m with
 |zero=>
  refine⟨0,λ_=>by lia,λ_=>by lia,λ_=>?_,λ_=>?_,λ_=>rfl⟩
  ·show(0:Int)=_;grind
  ·show(0:Int)=_;grind
 |succ m ih=>
  obtain⟨k,k1,k2,e1,e2,e3⟩:=ih;rcases Int.lt_trichotomy (yy r (j:Int)) (yy r (j+1))with hl|he|hg
  ·have k1:=k1 hl;have e1:=e1 hl;refine⟨min (max (lo+((m+1:Nat):Int)-yy r j) 0) (yy r (j+1)-yy r j),λ_=>rfl,λz=>by lia,λ_=>?_,λz=>by lia,λz=>by lia⟩;rw[AW,e1];by_cases hc:yy r (j:Int)<=lo+m/\lo+m<yy r (j+1)
   ·have hk:k=lo+m-yy r j:=by lia
    rw[Fi hc.1 hc.2,show min (max (lo+((m+1:Nat):Int)-yy r j) 0) (yy r (j+1)-yy r j)=k+1 by lia];have hx:xk r (lo+m) j=kj r j*(2*(yy r (j+1)-yy r j)*(AA r j).1+(2*k+1)*((AA r (j+1)).1-(AA r j).1)):=by
     unfold xk eN eD eS;rw[if_pos hl,if_pos hl]
     congr 3;lia
    rw[hx];grind
   ·have:AN r (lo+m) j=0:=by unfold AN;rw[if_neg hc,if_neg (by lia)]
    rw[this,show min (max (lo+((m+1:Nat):Int)-yy r j) 0) (yy r (j+1)-yy r j)=k by lia];lia
  ·refine⟨0,λz=>by lia,λz=>by lia,λz=>by lia,λz=>by lia,λ_=>?_⟩;rw[AW,e3 he];have:AN r (lo+m) j=0:=by unfold AN;rw[if_neg (by lia),if_neg (by lia)]
   rw[this];lia
  ·have k2:=k2 hg;have e2:=e2 hg;refine⟨min (max (lo+((m+1:Nat):Int)-yy r (j+1)) 0) (yy r j-yy r (j+1)),λz=>by lia,λ_=>rfl,λz=>by lia,λ_=>?_,λz=>by lia⟩;rw[AW,e2];by_cases hc:yy r ((j:Int)+1)<=lo+m/\lo+m<yy r j
   ·have hk:k=lo+m-yy r (j+1):=by lia
    rw[Fh hc.1 hc.2,show min (max (lo+((m+1:Nat):Int)-yy r (j+1)) 0) (yy r j-yy r (j+1))=k+1 by lia];have hx:xk r (lo+m) j=kj r j*(2*(yy r j-yy r (j+1))*(AA r j).1+(2*(yy r j-yy r (j+1))-(2*k+1))*((AA r (j+1)).1-(AA r j).1)):=by
     unfold xk eN eD eS;rw[if_neg (by lia),if_pos hg,if_neg (by lia)]
     congr 3;lia
    rw[hx];grind
   ·have:AN r (lo+m) j=0:=by unfold AN;rw[if_neg (by lia),if_neg hc]
    rw[this,show min (max (lo+((m+1:Nat):Int)-yy r (j+1)) 0) (yy r j-yy r (j+1))=k by lia];lia
theorem jB{r:List Pt}{j:Nat}(hj:j<r.length){lo:Int}{m:Nat}(h1:lo<=yy r j/\lo<=yy r (j+1))(h2:yy r j<=lo+m/\yy r (j+1)<=lo+m):2*AW (λt=>AN r (lo+t) j*xk r (lo+t) j) m=Ig r*(((AA r j).1+(AA r (j+1)).1)*(yy r (j+1)-yy r j)):=by
 obtain⟨k,k1,k2,e1,e2,e3⟩:=jA hj h1 m;obtain⟨a1,a2⟩:=P5 hj;rcases Int.lt_trichotomy (yy r (j:Int)) (yy r (j+1))with hl|he|hg
 ·have hk:k=yy r (j+1)-yy r j:=by have:=k1 hl;lia
  rw[e1 hl,a2,hk];unfold eD;rw[if_pos hl];grind
 ·rw[e3 he,he];grind
 ·have hk:k=yy r j-yy r (j+1):=by have:=k2 hg;lia
  rw[e2 hg,a2,hk];unfold eD;rw[if_neg (by lia),if_pos hg];grind
theorem fV(r:List Pt):Ds r=AW (λj=>((AA r j).1+(AA r (j+1)).1)*(yy r (j+1)-yy r j)) r.length:=by
 rw[Mf];have h1:AW (Fx r) r.length=AW (λj=>((AA r j).1+(AA r (j+1)).1)*(yy r (j+1)-yy r j)+(- ((AA r (j+1)).1*(AA r (j+1)).2) - - ((AA r j).1*(AA r j).2))) r.length:=B5 λi _=>by
  unfold Fx Br yy;grind
 rw[h1,Ew (λj=>((AA r j).1+(AA r (j+1)).1)*(yy r (j+1)-yy r j)) (λj=>- ((AA r (j+1)).1*(AA r (j+1)).2) - - ((AA r j).1*(AA r j).2))];have h2:=IT (λk=>- ((AA r k).1*(AA r k).2)) r.length;have h3:AA r ((r.length:Nat):Int)=AA r 0:=An (by simp);rw[h2,h3];lia
theorem Rm.Wh{r:List Pt}(R:Rm r){h j:Int}(hj:AN r h j≠0):cc r h j=1:=by
 have S:=R.simple;have h3:=R.l3;rcases S.Ml hj with c|c
 ·exfalso;have CB:∀(H:Int)(i:Int),AN r H i≠0->cc r H i=0:=λH i hi=>by rw[S.Mm hi hj];exact c
  obtain⟨lo,m,hb⟩:∃(lo:Int)(m:Nat),∀j:Nat,j<=r.length->lo<=yy r j/\yy r j<=lo+m:=by
   have:∀n:Nat,∃b:Int,0<=b/\∀j:Nat,j<n->-b<=yy r j/\yy r j<=b:=by
    intro n
    induction n with
    |zero=>exact⟨0,by lia,λj hj=>by lia⟩
    |succ n ih=>
     obtain⟨b,b0,hb⟩:=ih;refine⟨b+(yy r n).natAbs,by lia,λj hj=>?_⟩;by_cases F3:j=n
     ·subst F3;lia
     ·have:=hb j (by lia);lia
   obtain⟨b,b0,hb⟩:=this (r.length+1);exact⟨-b,(2*b).toNat,λj hj=>by have:=hb j (by lia);lia⟩
  have e1:Ig r*Ds r=2*AW (λt=>AW (λj=>AN r (lo+t) j*xk r (lo+t) j.toNat) r.length) m:=by
   rw[Vc (λt j=>AN r (lo+t) j*xk r (lo+t) j.toNat) r.length m,fV,<-OI,<-OI];refine B5 λi hi=>?_;have b1:=hb i (by lia);have b2:=hb (i+1) (by lia);rw[show((i+1:Nat):Int)=(i:Int)+1 by lia]at b2;rw[Int.toNat_natCast];exact(jB hi ⟨b1.1,b2.1⟩ ⟨b1.2,b2.2⟩).symm
  have e2:=Va (f:=λt=>AW (λj=>AN r (lo+t) j*xk r (lo+t) j.toNat) r.length) (n:=m) λt _=>S.nI (h:=lo+t) (CB (lo+t));have hK:0<Ig r:=by
   obtain⟨a1,a2⟩:=P5 (r:=r) (j:=0) (by lia);rw[a2];exact Int.mul_pos (O1 _ _) a1
  have:=Int.mul_pos hK R.Jt;lia
 ·exact c
theorem MH{Z:Int}(h:0<Z):(if ¬Z<=0 then(1:Int)else 0)=1/\(if ¬0<=Z then(1:Int)else 0)=0:=⟨if_pos (Int.not_le.mpr h),if_neg λz=>z (Int.le_of_lt h)⟩
theorem MG{Z:Int}(h:Z<0):(if ¬Z<=0 then(1:Int)else 0)=0/\(if ¬0<=Z then(1:Int)else 0)=1:=⟨if_neg λz=>z (Int.le_of_lt h),if_pos (Int.not_le.mpr h)⟩
theorem c8{p q:Int}(hq:q<0\/0<q)(h:p*q=0):p=0:=by
 rcases Int.mul_eq_zero.mp h with z|z
 ·exact z
 ·omega
theorem ur{ua ub va vb Z P Q:Int}(hZ:Z=P-Q)(hP:P=va*ub)(hQ:Q=ua*vb)(hE:¬ (Z=0/\((ua<=0/\0<=ub)\/(ub<=0/\0<=ua))/\((va<=0/\0<=vb)\/(vb<=0/\0<=va)))) : ((if va<=0/\0<vb/\Z>0 then(1:Int)else 0)-(if vb<=0/\0<va/\Z<0 then 1 else 0))-((if ua<=0/\0<ub/\Z>0 then 1 else 0)-(if ub<=0/\0<ua/\Z<0 then 1 else 0)) = (if ub<=0/\0<vb then 1 else 0)-(if ua<=0/\0<va then 1 else 0):=by
 simp only[<-Int.not_le,gt_iff_lt];by_cases a:ua<=0<;>by_cases b:ub<=0<;>by_cases c:va<=0<;>by_cases d:vb<=0<;>simp only[a,b,c,d,not_true,not_false_iff,true_and,false_and,if_false,if_true,and_true,and_false,Int.sub_self,Int.sub_zero,Int.zero_sub,Int.neg_zero]
 ·have h1:=Int.mul_nonneg_of_nonpos_of_nonpos c b;have h2:=Int.mul_nonpos_of_nonpos_of_nonneg a (Int.le_of_lt (Int.not_le.mp d));have h3:Z≠0:=λz=>hE ⟨z,.inr ⟨b,Int.le_of_eq (c8 (.inr (Int.not_le.mp d)) (by clear hE;omega)).symm⟩,.inl ⟨c,by clear hE;omega⟩⟩;exact(MH (by clear hE;omega)).1
 ·have h1:=Int.mul_nonpos_of_nonneg_of_nonpos (Int.le_of_lt (Int.not_le.mp c)) b;have h2:=Int.mul_nonneg_of_nonpos_of_nonpos a d;have h3:Z≠0:=λz=>hE ⟨z,.inl ⟨a,Int.le_of_eq (c8 (q:=va) (.inr (Int.not_le.mp c)) (by rw[Int.mul_comm];clear hE;omega)).symm⟩,.inr ⟨d,by clear hE;omega⟩⟩;rw[(MG (Z:=Z) (by clear hE;omega)).2]
 ·have h1:=Int.mul_nonpos_of_nonpos_of_nonneg c (Int.le_of_lt (Int.not_le.mp b));have h2:=Int.mul_nonneg_of_nonpos_of_nonpos a d;rw[if_neg (λz=>z (by clear hE;omega))];rfl
 ·rcases Int.lt_trichotomy Z 0 with z|z|z
  ·rw[(MG z).1,(MG z).2];rfl
  ·exact absurd ⟨z,.inl ⟨a,by clear hE;omega⟩,.inr ⟨d,by clear hE;omega⟩⟩ hE
  ·rw[(MH z).1,(MH z).2];rfl
 ·have h1:=Int.mul_pos (Int.not_le.mp c) (Int.not_le.mp b);have h2:=Int.mul_nonpos_of_nonpos_of_nonneg a (Int.le_of_lt (Int.not_le.mp d));rw[(MH (Z:=Z) (by clear hE;omega)).1]
 ·have h1:=Int.mul_nonneg_of_nonpos_of_nonpos c b;have h2:=Int.mul_nonpos_of_nonneg_of_nonpos (Int.le_of_lt (Int.not_le.mp a)) d;rw[if_neg (λz=>z (by clear hE;omega))];rfl
 ·rcases Int.lt_trichotomy Z 0 with z|z|z
  ·rw[(MG z).1,(MG z).2];rfl
  ·exact absurd ⟨z,.inr ⟨b,by clear hE;omega⟩,.inl ⟨c,by clear hE;omega⟩⟩ hE
  ·rw[(MH z).1,(MH z).2];rfl
 ·have h1:=Int.mul_nonpos_of_nonneg_of_nonpos (Int.le_of_lt (Int.not_le.mp c)) b;have h2:=Int.mul_pos (Int.not_le.mp a) (Int.not_le.mp d);rw[(MG (Z:=Z) (by clear hE;omega)).2];rfl
 ·have h1:=Int.mul_nonpos_of_nonpos_of_nonneg c (Int.le_of_lt (Int.not_le.mp b));have h2:=Int.mul_pos (Int.not_le.mp a) (Int.not_le.mp d);rw[if_neg (λz=>z (by clear hE;omega))]
 ·have h1:=Int.mul_pos (Int.not_le.mp c) (Int.not_le.mp b);have h2:=Int.mul_nonpos_of_nonneg_of_nonpos (Int.le_of_lt (Int.not_le.mp a)) d;rw[if_neg (λz=>z (by clear hE;omega))];rfl
def lean(k:Int)(p:Pt):Pt:=(p.1,p.2+k*p.1)
theorem OC(k:Int)(a b c:Pt):AE (lean k a) (lean k b) (lean k c)=AE a b c:=by unfold AE lean;grind
theorem fY{k:Int}{a b p:Pt}(hk:0<k)(h0:AE a b p=0)(hu:(a.2-p.2<=0/\0<=b.2-p.2)\/(b.2-p.2<=0/\0<=a.2-p.2))(hv:((a.2-p.2)+k*(a.1-p.1)<=0/\0<=(b.2-p.2)+k*(b.1-p.1))\/((b.2-p.2)+k*(b.1-p.1)<=0/\0<=(a.2-p.2)+k*(a.1-p.1))):At a b p:=by
 have hs:(a.1-p.1)*(b.2-p.2)=(a.2-p.2)*(b.1-p.1):=by unfold AE at h0;grind
 by_cases Aw:a.2=b.2
 ·have ha:a.2-p.2=0:=by lia
  have hb:b.2-p.2=0:=by lia
  rw[ha,hb,Int.zero_add,Int.zero_add]at hv;have key:∀x:Int,(k*x<=0->x<=0)/\(0<=k*x->0<=x):=λx=>by
   constructor
   ·intro h;by_cases c:x<=0
    ·exact c
    ·have:=Int.mul_pos hk (show 0<x by lia);lia
   ·intro h;by_cases c:0<=x
    ·exact c
    ·have:=Int.mul_neg_of_pos_of_neg hk (show x<0 by lia);lia
  have hx:(a.1-p.1<=0/\0<=b.1-p.1)\/(b.1-p.1<=0/\0<=a.1-p.1):=by
   rcases hv with⟨z1,z2⟩|⟨z1,z2⟩
   ·exact .inl ⟨(key _).1 z1,(key _).2 z2⟩
   ·exact .inr ⟨(key _).1 z1,(key _).2 z2⟩
  exact K8 ⟨h0,by lia,by lia⟩
 ·rcases Int.lt_or_gt_of_ne Aw with hl|hl
  ·exact⟨b.2-a.2,p.2-a.2,by lia,by lia,by lia,by grind,by grind⟩
  ·exact⟨a.2-b.2,a.2-p.2,by lia,by lia,by lia,by grind,by grind⟩
theorem jn{k:Int}(hk:0<k){a b p:Pt}(hp:¬ At a b p):fw (lean k a) (lean k b) (lean k p)-fw a b p = (if b.2-p.2<=0/\0<(b.2-p.2)+k*(b.1-p.1)then 1 else 0)-(if a.2-p.2<=0/\0<(a.2-p.2)+k*(a.1-p.1)then 1 else 0):=by
 have e:k*AE a b p=((a.2-p.2)+k*(a.1-p.1))*(b.2-p.2)-(a.2-p.2)*((b.2-p.2)+k*(b.1-p.1)):=by unfold AE;grind
 have t:=ur (ua:=a.2-p.2) (ub:=b.2-p.2) (va:=(a.2-p.2)+k*(a.1-p.1)) (vb:=(b.2-p.2)+k*(b.1-p.1)) (Z:=k*AE a b p) e rfl rfl (by
  rintro⟨z,hu,hv⟩;have:AE a b p=0:=by
   rcases Int.mul_eq_zero.mp z with h|h
   ·lia
   ·exact h
  exact hp (fY hk this hu hv))
 have z1:(k*AE a b p>0)↔AE a b p>0:=by
  constructor
  ·intro h;by_cases c:AE a b p>0
   ·exact c
   ·have:=Int.mul_nonpos_of_nonneg_of_nonpos (Int.le_of_lt hk) (show AE a b p<=0 by lia);lia
  ·exact λh=>Int.mul_pos hk h
 have z2:(k*AE a b p<0)↔AE a b p<0:=by
  constructor
  ·intro h;by_cases c:AE a b p<0
   ·exact c
   ·have:=Int.mul_nonneg (Int.le_of_lt hk) (show 0<=AE a b p by lia);lia
  ·exact λh=>Int.mul_neg_of_pos_of_neg hk h
 simp only[z1,z2]at t;rw[<-t];unfold fw;rw[OC];have c1:∀c:Pt,((lean k c).2<=(lean k p).2)↔((c.2-p.2)+k*(c.1-p.1)<=0):=λc=>by unfold lean;dsimp only;rw[Int.mul_sub];lia
 have c2:∀c:Pt,((lean k p).2<(lean k c).2)↔(0<(c.2-p.2)+k*(c.1-p.1)):=λc=>by unfold lean;dsimp only;rw[Int.mul_sub];lia
 have c3:∀c:Pt,(c.2<=p.2)↔(c.2-p.2<=0):=λc=>by lia
 have c4:∀c:Pt,(p.2<c.2)↔(0<c.2-p.2):=λc=>by lia
 simp only[c1,c2,c3,c4]
theorem LU{r:List Pt}(h:0<r.length)(k i:Int):AA (r.map (lean k)) i=lean k (AA r i):=D6 h i
theorem fL{r:List Pt}(h:0<r.length){k:Int}(hk:0<k){p:Pt}(hp:∀j:Int,¬ At (AA r j) (AA r (j+1)) p):W (r.map (lean k)) (lean k p)=W r p:=by
 unfold W;rw[List.length_map];rw[B5 (g:=λj=>fw (AA r j) (AA r (j+1)) p+((if(AA r (j+1)).2-p.2<=0/\0<((AA r (j+1)).2-p.2)+k*((AA r (j+1)).1-p.1)then 1 else 0)-(if(AA r j).2-p.2<=0/\0<((AA r j).2-p.2)+k*((AA r j).1-p.1)then 1 else 0))) λj _=>by
  rw[LU h,LU h];have:=jn hk (hp j);lia]
 rw[Ew (λj=>fw (AA r j) (AA r (j+1)) p) (λj=>(if(AA r (j+1)).2-p.2<=0/\0<((AA r (j+1)).2-p.2)+k*((AA r (j+1)).1-p.1)then 1 else 0)-(if(AA r j).2-p.2<=0/\0<((AA r j).2-p.2)+k*((AA r j).1-p.1)then 1 else 0))];have ht:=IT (λj=>(if(AA r j).2-p.2<=0/\0<((AA r j).2-p.2)+k*((AA r j).1-p.1)then(1:Int)else 0)) r.length;have hc:AA r (r.length:Int)=AA r 0:=An (by simp);rw[hc]at ht;rw[ht];lia
theorem Fb{a b c d:Pt}(h:Lt a b c d):Lt b a c d:=by
 obtain⟨q,s,t,h1,h2,h3,h4,h5,e,l⟩:=h;exact⟨q,q-s,t,h1,by lia,by lia,h4,h5,by grind,by grind⟩
theorem GB{a b c d:Pt}(h:Lt a b c d):Lt a b d c:=by
 obtain⟨q,s,t,h1,h2,h3,h4,h5,e,l⟩:=h;exact⟨q,s,q-t,h1,h2,h3,by lia,by lia,by grind,by grind⟩
theorem OB{a b c d:Pt}(h:B0 a b c d):B0 b a c d:=by
 obtain⟨q,s,t,h1,h2,h3,h4,h5,e1,e2⟩:=h;exact⟨q,q-s,t,h1,by lia,by lia,h4,h5,by grind,by grind⟩
theorem Ju{a b p:Pt}(h:At a b p):At b a p:=by
 obtain⟨q,s,h1,h2,h3,e1,e2⟩:=h;exact⟨q,q-s,h1,by lia,by lia,by grind,by grind⟩
theorem QE{A X B:Pt}(f:CV A X B)(h1:Lt A B A X):¬ Lt A X A B:=λh2=>by
 obtain⟨q1,s1,t1,q2,s2,t2,x,y,hx,hy,NT,NU,a1,a2,b1,b2,c1,c2,d1,d2,e0,e1,e2⟩:=UG h1 h2;have n1:=Int.mul_nonneg a1 (Int.le_of_lt hy);have n2:=Int.mul_nonneg b1 (Int.le_of_lt hx);have n3:=Int.mul_nonneg c1 (Int.le_of_lt hy);have n4:=Int.mul_nonneg d1 (Int.le_of_lt hx);obtain⟨z1,z2⟩:=f (t1*y+t2*x) (s1*y+s2*x) (by lia) (by lia) (by lia) (by lia);have k1:s1*y=0:=by lia
 have k2:t1*y=0:=by lia
 have Tw:s1=0:=by
  rcases Int.mul_eq_zero.mp k1 with h|h<;>lia
 have Gj:t1=0:=by
  rcases Int.mul_eq_zero.mp k2 with h|h<;>lia
 rw[Tw,Gj]at e0;lia
theorem CV.symm{A X B:Pt}(f:CV A X B):CV A B X:=λs t hs ht e1 e2=>(f t s ht hs e1.symm e2.symm).symm
structure Probe(r:List Pt)(i j:Int):Prop where
 Ce:CN r.length (i-j)
 f1:CV (AA r i) (AA r (i+1)) (AA r j)
 f2:CV (AA r i) (AA r (i-1)) (AA r j)
 f3:CV (AA r j) (AA r (j+1)) (AA r i)
 f4:CV (AA r j) (AA r (j-1)) (AA r i)
 nt:∀k:Int,(i-k)%(r.length:Int)≠0->(i-k)%(r.length:Int)≠1->(j-k)%(r.length:Int)≠0->(j-k)%(r.length:Int)≠1->¬ B0 (AA r i) (AA r j) (AA r k) (AA r (k+1))
theorem mod_succ{n a b:Int}(hn:1<n)(h:(a-b)%n=0):(a+1-b)%n=1:=by
 rw[show a+1-b=(a-b)+1 by lia,Int.add_emod,h,Int.emod_eq_of_lt (a:=1) (by lia) hn,Int.zero_add,Int.emod_eq_of_lt (by lia) hn]
theorem S3{n d:Int}(hn:2<=n)(h:CN n d):d%n≠0/\d%n≠1/\(-d)%n≠0/\(-d)%n≠1:=⟨h.1,h.2.1,(h.neg hn).1,(h.neg hn).2.1⟩
section
variable{r:List Pt}(S:BD r)
include S
theorem Probe.symm{i j:Int}(p:Probe r i j):Probe r j i:=
 ⟨by have:=p.Ce.neg (by have:=S.l3;lia);rw[show -(i-j)=j-i by lia]at this;exact this,p.f3,p.f4,p.f1,p.f2,λk a b c d h=>p.nt k c d a b (OB h)⟩
theorem BD.distinct{m j:Int}(h0:(m-j)%(r.length:Int)≠0)(h1:(m-j)%(r.length:Int)≠1):AA r m≠AA r j:=λe=>by
 refine S.off h0 h1 (q:=1) (s:=0) (by lia) (by lia) (by lia) ?_ ?_
 ·rw[e];lia
 ·rw[e];lia
theorem Probe.M1{i j:Int}(p:Probe r i j):CV (AA r i) (AA r (i+1)) (AA r j):=p.f1
theorem Probe.KC{i j:Int}(p:Probe r i j):CV (AA r i) (AA r (i-1)) (AA r j):=p.f2
theorem YL(DP:∀k:Int,AE (AA r k) (AA r (k+1)) (AA r (k+1+1))≠0){i j:Int}(Ce:CN r.length (i-j))(nt:∀k:Int,(i-k)%(r.length:Int)≠0->(i-k)%(r.length:Int)≠1->(j-k)%(r.length:Int)≠0->(j-k)%(r.length:Int)≠1->¬ B0 (AA r i) (AA r j) (AA r k) (AA r (k+1))):CV (AA r i) (AA r (i+1)) (AA r j):=by
 have h3:=S.l3;obtain⟨f0,f1,f2,f3⟩:=S3 (by lia) Ce;rw[show -(i-j)=j-i by lia]at f2 f3;intro s t hs ht e1 e2;have KI:AA r j≠AA r i:=S.distinct f2 f3;have hb:=DP i;have M7:AA r (i+1)≠AA r i:=λc=>hb (by rw[c];unfold AE;grind);by_cases s0:s=0
 ·refine⟨s0,?_⟩;by_cases t0:t=0
  ·exact t0
  ·exfalso;apply KI;rw[s0,Int.zero_mul]at e1 e2;have g1:=Int.mul_eq_zero.mp e1.symm;have g2:=Int.mul_eq_zero.mp e2.symm;exact Prod.ext (by lia) (by lia)
 by_cases t0:t=0
 ·exfalso;apply M7;rw[t0,Int.zero_mul]at e1 e2;have g1:=Int.mul_eq_zero.mp e1;have g2:=Int.mul_eq_zero.mp e2;exact Prod.ext (by lia) (by lia)
 exfalso;rcases Int.le_total t s with hle|hle
 ·-- Kt next Wx lies on Kt Vr
  have FU:At (AA r i) (AA r j) (AA r (i+1)):=⟨s,t,by lia,ht,hle,e1,e2⟩;by_cases hj:(j-(i+1))%(r.length:Int)=1
  ·have:=(S.next hj).1;apply hb;have hs:=(Gw FU).1;rw[this]at hs;have:AE (AA r i) (AA r (i+1)) (AA r (i+1+1)) = - AE (AA r i) (AA r (i+1+1)) (AA r (i+1)):=by unfold AE;grind
   rw[this,hs];rfl
  ·refine nt (i+1) (λc=>?_) (λc=>?_) (λc=>?_) hj (Qx FU)
   ·rw[show i-(i+1) = -1 by lia]at c;have:(-1:Int)%(r.length:Int)=r.length-1:=by
     rw[show(-1:Int)=(r.length-1)+r.length*(-1)by lia,Int.add_mul_emod_self_left,Int.emod_eq_of_lt (by lia) (by lia)]
    lia
   ·rw[show i-(i+1) = -1 by lia]at c;have:(-1:Int)%(r.length:Int)=r.length-1:=by
     rw[show(-1:Int)=(r.length-1)+r.length*(-1)by lia,Int.add_mul_emod_self_left,Int.emod_eq_of_lt (by lia) (by lia)]
    lia
   ·apply f3;have:=mod_succ (n:=(r.length:Int)) (by lia) c;rw[show j+1-(i+1)=j-i by lia]at this;exact this
 ·-- Kt Ce Wx lies on Kt wall
  exact S.off f2 f3 (q:=t) (s:=s) (by lia) hs hle (by grind) (by grind)
theorem YM(DP:∀k:Int,AE (AA r k) (AA r (k+1)) (AA r (k+1+1))≠0){i j:Int}(Ce:CN r.length (i-j))(nt:∀k:Int,(i-k)%(r.length:Int)≠0->(i-k)%(r.length:Int)≠1->(j-k)%(r.length:Int)≠0->(j-k)%(r.length:Int)≠1->¬ B0 (AA r i) (AA r j) (AA r k) (AA r (k+1))):CV (AA r i) (AA r (i-1)) (AA r j):=by
 have h3:=S.l3;obtain⟨f0,f1,f2,f3⟩:=S3 (by lia) Ce;rw[show -(i-j)=j-i by lia]at f2 f3;intro s t hs ht e1 e2;have KI:AA r j≠AA r i:=S.distinct f2 f3;have hb:AE (AA r (i-2)) (AA r (i-1)) (AA r i)≠0:=by
  have:=DP (i-2);rw[show i-2+1=i-1 by lia,show i-1+1=i by lia]at this;exact this
 have M7:AA r (i-1)≠AA r i:=λc=>hb (by rw[c];unfold AE;grind);by_cases s0:s=0
 ·refine⟨s0,?_⟩;by_cases t0:t=0
  ·exact t0
  ·exfalso;apply KI;rw[s0,Int.zero_mul]at e1 e2;have g1:=Int.mul_eq_zero.mp e1.symm;have g2:=Int.mul_eq_zero.mp e2.symm;exact Prod.ext (by lia) (by lia)
 by_cases t0:t=0
 ·exfalso;apply M7;rw[t0,Int.zero_mul]at e1 e2;have g1:=Int.mul_eq_zero.mp e1;have g2:=Int.mul_eq_zero.mp e2;exact Prod.ext (by lia) (by lia)
 exfalso;have em:i-1+1=i:=by lia
 rcases Int.le_total t s with hle|hle
 ·have FU:At (AA r i) (AA r j) (AA r (i-1)):=⟨s,t,by lia,ht,hle,e1,e2⟩;have O0:i-2+1=i-1:=by lia
  by_cases hj:(j-(i-2))%(r.length:Int)=0
  ·have:=An hj;apply hb;have hs:=(Gw FU).1;rw[this]at hs;have:AE (AA r (i-2)) (AA r (i-1)) (AA r i)=AE (AA r i) (AA r (i-2)) (AA r (i-1)):=by unfold AE;grind
   rw[this,hs]
  ·have BV:B0 (AA r i) (AA r j) (AA r (i-2)) (AA r (i-2+1)):=by rw[O0];exact VQ FU
   refine nt (i-2) (λc=>?_) (λc=>?_) hj (λc=>?_) BV
   ·rw[show i-(i-2)=2 by lia,Int.emod_eq_of_lt (by lia) (by lia)]at c;lia
   ·rw[show i-(i-2)=2 by lia,Int.emod_eq_of_lt (by lia) (by lia)]at c;lia
   ·have:=EK (by lia) c;have c':=Ci this;rw[show i-2-(j-1)=(i-1)-j by lia]at c';have:=mod_succ (n:=(r.length:Int)) (by lia) c';rw[show i-1+1-j=i-j by lia]at this;exact f1 this
 ·refine S.off (m:=j) (j:=i-1) (λc=>?_) (λc=>?_) (q:=t) (s:=t-s) (by lia) (by lia) (by lia) (by rw[em];grind) (by rw[em];grind)
  ·have c':=Ci c;have:=mod_succ (n:=(r.length:Int)) (by lia) c';rw[show i-1+1-j=i-j by lia]at this;exact f1 this
  ·have:=EK (by lia) c;rw[show j-1-(i-1)=j-i by lia]at this;exact f2 this
theorem UY(DP:∀k:Int,AE (AA r k) (AA r (k+1)) (AA r (k+1+1))≠0){i j:Int}(Ce:CN r.length (i-j))(nt:∀k:Int,(i-k)%(r.length:Int)≠0->(i-k)%(r.length:Int)≠1->(j-k)%(r.length:Int)≠0->(j-k)%(r.length:Int)≠1->¬ B0 (AA r i) (AA r j) (AA r k) (AA r (k+1))):Probe r i j:=by
 have YA:CN r.length (j-i):=by have:=Ce.neg (by have:=S.l3;lia);rw[show -(i-j)=j-i by lia]at this;exact this
 have aE:=λk a b c d h=>nt k c d a b (OB h);exact⟨Ce,YL S DP Ce nt,YM S DP Ce nt,YL S DP YA aE,YM S DP YA aE,nt⟩
theorem Probe.nc{i j:Int}(p:Probe r i j)(k:Int)(h1:Lt (AA r i) (AA r j) (AA r k) (AA r (k+1))):¬ Lt (AA r k) (AA r (k+1)) (AA r i) (AA r j):=by
 have h3:=S.l3;have p':=p.symm S;by_cases a:(i-k)%(r.length:Int)=0
 ·have e1:=An a;have e2:=An (Bx a);rw[<-e1,<-e2]at h1 ⊢;exact QE (p.M1 S) h1
 by_cases b:(i-k)%(r.length:Int)=1
 ·have e:=S.next b;have e0:AA r k=AA r (i-1):=(An (by have:=EK (by lia) b;exact this)).symm;rw[<-e.1,e0]at h1 ⊢;exact λc=>QE (p.KC S) (GB h1) (Fb c)
 by_cases c:(j-k)%(r.length:Int)=0
 ·have e1:=An c;have e2:=An (Bx c);rw[<-e1,<-e2]at h1 ⊢;exact λz=>QE (p'.M1 S) (Fb h1) (GB z)
 by_cases d:(j-k)%(r.length:Int)=1
 ·have e:=S.next d;have e0:AA r k=AA r (j-1):=(An (by have:=EK (by lia) d;exact this)).symm;rw[<-e.1,e0]at h1 ⊢;exact λz=>QE (p'.KC S) (Fb (GB h1)) (Fb (GB z))
 ·exact UL (p.nt k a b c d) h1
theorem Probe.GL{i j:Int}(p:Probe r i j){m:Int}(a:(i-m)%(r.length:Int)≠0)(c:(j-m)%(r.length:Int)≠0):¬ At (AA r i) (AA r j) (AA r m):=by
 have h3:=S.l3;intro FU;by_cases b:(i-m)%(r.length:Int)=1
 ·have e0:AA r m=AA r (i-1):=(An (by have:=EK (by lia) b;exact this)).symm;rw[e0]at FU;obtain⟨q,s,hq,s0,s1,e1,e2⟩:=FU;have:=(p.KC S q s (by lia) s0 e1 e2).1;lia
 by_cases d:(j-m)%(r.length:Int)=1
 ·have e0:AA r m=AA r (j-1):=(An (by have:=EK (by lia) d;exact this)).symm;rw[e0]at FU;obtain⟨q,s,hq,s0,s1,e1,e2⟩:=Ju FU;have:=((p.symm S).KC S q s (by lia) s0 e1 e2).1;lia
 ·exact p.nt m a b c d (Qx FU)
end
noncomputable def RQ(r:List Pt)(h:Int)(A B:Pt):Int:=AW (λk=>ind (Lt A B (AA r k) (AA r (k+1)))*AN r h k) r.length
section
variable{r:List Pt}(S:BD r){i j:Int}(p:Probe r i j)
include S p
theorem Probe.OO{m:Int}(a:(i-m)%(r.length:Int)≠0)(c:(j-m)%(r.length:Int)≠0)(Aw:yy r i≠yy r j)(hr:(yy r i<=yy r m/\yy r m<=yy r j)\/(yy r j<=yy r m/\yy r m<=yy r i)) : Lt (AA r i) (AA r j) (AA r m) (AA r m)\/Lt (AA r m) (AA r m) (AA r i) (AA r j):=by
 obtain⟨q,s,hq,s0,s1,e,_,_⟩:=L6 (a:=AA r i) (b:=AA r j) (h:=yy r m) Aw hr;unfold yy at e;rcases Int.lt_trichotomy (q*(AA r i).1+s*((AA r j).1-(AA r i).1)) (q*(AA r m).1)with hl|he|hg
 ·exact .inl ⟨q,s,0,hq,s0,s1,by lia,by lia,by rw[e];lia,by lia⟩
 ·exact absurd ⟨q,s,hq,s0,s1,by grind,by grind⟩ (p.GL S a c)
 ·exact .inr ⟨q,0,s,hq,by lia,by lia,s0,s1,by rw[e];lia,by lia⟩
theorem Probe.step{h:Int}(F6:(yy r i<h/\h<yy r j)\/(yy r j<h/\h<yy r i)):RQ r h (AA r i) (AA r j)=RQ r (h-1) (AA r i) (AA r j):=by
 have key:∀k:Int,ind (Lt (AA r i) (AA r j) (AA r k) (AA r (k+1)))*AN r h k=ind (Lt (AA r i) (AA r j) (AA r k) (AA r (k+1)))*AN r (h-1) k+(ind (yy r k=h/\Lt (AA r i) (AA r j) (AA r k) (AA r k))-ind (yy r (k+1)=h/\Lt (AA r i) (AA r j) (AA r (k+1)) (AA r (k+1)))):=by
  intro k;have hd:=Qw r h k;refine comb (x:=ind (yy r k=h)) (y:=ind (yy r (k+1)=h)) (by lia) ?_ ?_
  ·by_cases a1:yy r k=h
   ·refine .inl ⟨Ay a1,?_⟩;rcases p.OO S (m:=k) (λc=>by have:=DN c;lia) (λc=>by have:=DN c;lia) (by lia) (by lia)with z|z
    ·rw[Ay ⟨a1,z⟩,Ay (Lv z)]
    ·have n1:¬ Lt (AA r i) (AA r j) (AA r k) (AA r (k+1)):=λc=>p.nc S k c (P8 z);rw[Aa n1,Aa (λc=>n1 (Lv c.2))]
   ·exact .inr ⟨Aa a1,Aa (λc=>a1 c.1)⟩
  ·by_cases a2:yy r (k+1)=h
   ·refine .inl ⟨Ay a2,?_⟩;rcases p.OO S (m:=k+1) (λc=>by have:=DN c;lia) (λc=>by have:=DN c;lia) (by lia) (by lia)with z|z
    ·rw[Ay ⟨a2,z⟩,Ay (Nk z)]
    ·have n1:¬ Lt (AA r i) (AA r j) (AA r k) (AA r (k+1)):=λc=>p.nc S k c (UE z);rw[Aa n1,Aa (λc=>n1 (Nk c.2))]
   ·exact .inr ⟨Aa a2,Aa (λc=>a2 c.1)⟩
 unfold RQ;rw[B5 (g:=λk=>ind (Lt (AA r i) (AA r j) (AA r k) (AA r (k+1)))*AN r (h-1) k+(ind (yy r k=h/\Lt (AA r i) (AA r j) (AA r k) (AA r k))-ind (yy r (k+1)=h/\Lt (AA r i) (AA r j) (AA r (k+1)) (AA r (k+1))))) λk _=>key k];rw[Ew (λk=>ind (Lt (AA r i) (AA r j) (AA r k) (AA r (k+1)))*AN r (h-1) k) (λk=>ind (yy r k=h/\Lt (AA r i) (AA r j) (AA r k) (AA r k))-ind (yy r (k+1)=h/\Lt (AA r i) (AA r j) (AA r (k+1)) (AA r (k+1))))];have ht:=IT (λk=>- ind (yy r k=h/\Lt (AA r i) (AA r j) (AA r k) (AA r k))) r.length;have hc:AA r (r.length:Int)=AA r 0:=An (by simp);have hy:yy r (r.length:Int)=yy r 0:=by unfold yy;rw[hc]
 rw[hc,hy]at ht;rw[B5 (g:=λk=>- ind (yy r (k+1)=h/\Lt (AA r i) (AA r j) (AA r (k+1)) (AA r (k+1))) - - ind (yy r k=h/\Lt (AA r i) (AA r j) (AA r k) (AA r k))) (f:=λk=>ind (yy r k=h/\Lt (AA r i) (AA r j) (AA r k) (AA r k))-ind (yy r (k+1)=h/\Lt (AA r i) (AA r j) (AA r (k+1)) (AA r (k+1)))) λk _=>by lia,ht];lia
theorem Probe.along{h h':Int}(h1:(yy r i<=h/\h<yy r j)\/(yy r j<=h/\h<yy r i))(h2:(yy r i<=h'/\h'<yy r j)\/(yy r j<=h'/\h'<yy r i)):RQ r h (AA r i) (AA r j)=RQ r h' (AA r i) (AA r j):=by
 have main:∀(m:Nat)(h:Int),((yy r i<=h/\h<yy r j)\/(yy r j<=h/\h<yy r i))->((yy r i<=h+m/\h+m<yy r j)\/(yy r j<=h+m/\h+m<yy r i))->RQ r (h+m) (AA r i) (AA r j)=RQ r h (AA r i) (AA r j):=by
  intro m
  induction m with
  |zero=>intro h _ _;simp
  |succ m ih=>
   intro h a b;rw[<-ih h a (by lia)];have:=p.step S (h:=h+((m+1:Nat):Int)) (by lia);rw[this,show h+((m+1:Nat):Int)-1=h+m by lia]
 rcases Int.le_total h h' with hl|hl
 ·have:=main (h'-h).toNat h h1 (by rw[Int.toNat_of_nonneg (by lia)];lia);rw[Int.toNat_of_nonneg (by lia),show h+(h'-h)=h' by lia]at this;exact this.symm
 ·have:=main (h-h').toNat h' h2 (by rw[Int.toNat_of_nonneg (by lia)];lia);rw[Int.toNat_of_nonneg (by lia),show h'+(h-h')=h by lia]at this;exact this
end
def dbl(p:Pt):Pt:=(2*p.1,2*p.2)
theorem nU{A B c d:Pt}(h:Lt (A.1+B.1,A.2+B.2) (A.1+B.1,A.2+B.2) (dbl c) (dbl d)):Lt A B c d:=by
 obtain⟨q,s,t,h1,h2,h3,h4,h5,e,l⟩:=h;unfold dbl at e l;dsimp only at e l;exact⟨2*q,q,2*t,by lia,by lia,by lia,by lia,by lia,by grind,by grind⟩
theorem nV{A B c d:Pt}(h:Lt (dbl c) (dbl d) (A.1+B.1,A.2+B.2) (A.1+B.1,A.2+B.2)):Lt c d A B:=by
 obtain⟨q,s,t,h1,h2,h3,h4,h5,e,l⟩:=h;unfold dbl at e l;dsimp only at e l;exact⟨2*q,2*s,q,by lia,by lia,by lia,by lia,by lia,by grind,by grind⟩
section
variable{r:List Pt}(S:BD r){i j:Int}(p:Probe r i j)
include S p
theorem Probe.UK(k:Int):¬ At (dbl (AA r k)) (dbl (AA r (k+1))) ((AA r i).1+(AA r j).1,(AA r i).2+(AA r j).2):=by
 have h3:=S.l3;have p':=p.symm S;rintro⟨q,s,hq,s0,s1,e1,e2⟩;unfold dbl at e1 e2;dsimp only at e1 e2;by_cases a:(i-k)%(r.length:Int)=0
 ·have z1:=An a;have z2:=An (Bx a);rw[<-z1,<-z2]at e1 e2;have:=(p.M1 S (2*s) q (by lia) (by lia) (by grind) (by grind)).2;lia
 by_cases b:(i-k)%(r.length:Int)=1
 ·have e:=S.next b;have e0:AA r k=AA r (i-1):=(An (by have:=EK (by lia) b;exact this)).symm;rw[<-e.1,e0]at e1 e2;have:=(p.KC S (2*(q-s)) q (by lia) (by lia) (by grind) (by grind)).2;lia
 by_cases c:(j-k)%(r.length:Int)=0
 ·have z1:=An c;have z2:=An (Bx c);rw[<-z1,<-z2]at e1 e2;have:=(p'.M1 S (2*s) q (by lia) (by lia) (by grind) (by grind)).2;lia
 by_cases d:(j-k)%(r.length:Int)=1
 ·have e:=S.next d;have e0:AA r k=AA r (j-1):=(An (by have:=EK (by lia) d;exact this)).symm;rw[<-e.1,e0]at e1 e2;have:=(p'.KC S (2*(q-s)) q (by lia) (by lia) (by grind) (by grind)).2;lia
 ·exact p.nt k a b c d ⟨2*q,q,2*s,by lia,by lia,by lia,by lia,by lia,by grind,by grind⟩
theorem Probe.mid:W (r.map dbl) ((AA r i).1+(AA r j).1,(AA r i).2+(AA r j).2)=RQ r ((yy r i+yy r j) / 2) (AA r i) (AA r j):=by
 have h3:=S.l3;have hc:∀k:Int,AA (r.map dbl) k=dbl (AA r k):=λk=>D6 (by lia) k;unfold W RQ;rw[List.length_map];refine B5 λk _=>?_;rw[YQ,hc,hc];have hs:AN (r.map dbl) ((AA r i).2+(AA r j).2) k=AN r ((yy r i+yy r j) / 2) k:=by
  unfold AN yy;rw[hc,hc];unfold dbl;dsimp only;generalize (AA r i).2+(AA r j).2=m;generalize (AA r k).2=a;generalize (AA r (k+1)).2=b
  (repeat' split)<;>lia
 rw[hs,Int.mul_comm];by_cases hz:AN r ((yy r i+yy r j) / 2) k=0
 ·rw[hz];lia
 ·congr 1
  have rs:=Dc hz;by_cases hl:Lt (AA r i) (AA r j) (AA r k) (AA r (k+1))
  ·rw[Ay hl];refine Ay ?_;obtain⟨q,s,hq,s0,s1,ey,_,_⟩:=L6 (a:=dbl (AA r k)) (b:=dbl (AA r (k+1))) (h:=(AA r i).2+(AA r j).2) (by unfold dbl;dsimp only;unfold yy at rs;lia) (by unfold dbl;dsimp only;unfold yy at rs;lia);rcases Int.lt_trichotomy (q*((AA r i).1+(AA r j).1)) (q*(dbl (AA r k)).1+s*((dbl (AA r (k+1))).1-(dbl (AA r k)).1))with u|u|u
   ·exact⟨q,0,s,hq,by lia,by lia,s0,s1,by rw[ey];dsimp only;lia,by dsimp only;lia⟩
   ·exact absurd ⟨q,s,hq,s0,s1,by dsimp only;grind,by dsimp only;grind⟩ (p.UK S k)
   ·exact absurd (nV (A:=AA r i) (B:=AA r j) ⟨q,s,0,hq,s0,s1,by lia,by lia,by rw[ey];dsimp only;lia,by dsimp only;lia⟩) (p.nc S k hl)
  ·rw[Aa hl];exact Aa λc=>hl (nU c)
end
noncomputable def NN(r:List Pt)(h i:Int):Int:=AW (λk=>ind (Lt (AA r i) (AA r i) (AA r k) (AA r (k+1)))*AN r h k) r.length
theorem Jy{A X Y:Pt}(hx:A.2<X.2)(hy:A.2<Y.2):Lt A X A Y↔AE A Y X>0:=by
 constructor
 ·rintro⟨q,s,t,hq,s0,s1,t0,t1,e,l⟩;have e':s*(X.2-A.2)=t*(Y.2-A.2):=by lia
  have l':s*(X.1-A.1)<t*(Y.1-A.1):=by lia
  have ht:0<t:=by
   by_cases c:t=0
   ·rw[c,Int.zero_mul]at e' l';have:s=0:=by
     rcases Int.mul_eq_zero.mp e' with h|h<;>lia
    rw[this]at l';lia
   ·lia
  have k:t*AE A Y X=(X.2-A.2)*(t*(Y.1-A.1)-s*(X.1-A.1)):=by
   have:t*AE A Y X=(t*(Y.1-A.1))*(X.2-A.2)-(t*(Y.2-A.2))*(X.1-A.1):=by unfold AE;grind
   rw[this,<-e'];grind
  have:=Int.mul_pos (show 0<X.2-A.2 by lia) (show 0<t*(Y.1-A.1)-s*(X.1-A.1)by lia);by_cases c:AE A Y X>0
  ·exact c
  ·have:=Int.mul_nonpos_of_nonneg_of_nonpos (Int.le_of_lt ht) (show AE A Y X<=0 by lia);lia
 ·intro h;have m1:(Y.2-A.2)*1<=(Y.2-A.2)*(X.2-A.2):=Int.mul_le_mul_of_nonneg_left (by lia) (by lia);have m2:(X.2-A.2)*1<=(X.2-A.2)*(Y.2-A.2):=Int.mul_le_mul_of_nonneg_left (by lia) (by lia);have m3:(X.2-A.2)*(Y.2-A.2)=(Y.2-A.2)*(X.2-A.2):=Int.mul_comm _ _;exact⟨(X.2-A.2)*(Y.2-A.2),Y.2-A.2,X.2-A.2,Int.mul_pos (by lia) (by lia),by lia,by lia,by lia,by lia,by grind,by unfold AE at h;grind⟩
theorem LS{A X Y:Pt}(hx:X.2<A.2)(hy:Y.2<A.2):Lt A X A Y↔AE A X Y>0:=by
 constructor
 ·rintro⟨q,s,t,hq,s0,s1,t0,t1,e,l⟩;have e':s*(X.2-A.2)=t*(Y.2-A.2):=by lia
  have l':s*(X.1-A.1)<t*(Y.1-A.1):=by lia
  have ht:0<t:=by
   by_cases c:t=0
   ·rw[c,Int.zero_mul]at e' l';have:s=0:=by
     rcases Int.mul_eq_zero.mp e' with h|h<;>lia
    rw[this]at l';lia
   ·lia
  have k:t*AE A X Y=(A.2-X.2)*(t*(Y.1-A.1)-s*(X.1-A.1)):=by
   have:t*AE A X Y=(X.1-A.1)*(t*(Y.2-A.2))-(X.2-A.2)*(t*(Y.1-A.1)):=by unfold AE;grind
   rw[this,<-e'];grind
  have:=Int.mul_pos (show 0<A.2-X.2 by lia) (show 0<t*(Y.1-A.1)-s*(X.1-A.1)by lia);by_cases c:AE A X Y>0
  ·exact c
  ·have:=Int.mul_nonpos_of_nonneg_of_nonpos (Int.le_of_lt ht) (show AE A X Y<=0 by lia);lia
 ·intro h;have m1:(A.2-Y.2)*1<=(A.2-Y.2)*(A.2-X.2):=Int.mul_le_mul_of_nonneg_left (by lia) (by lia);have m2:(A.2-X.2)*1<=(A.2-X.2)*(A.2-Y.2):=Int.mul_le_mul_of_nonneg_left (by lia) (by lia);have m3:(A.2-X.2)*(A.2-Y.2)=(A.2-Y.2)*(A.2-X.2):=Int.mul_comm _ _;exact⟨(A.2-X.2)*(A.2-Y.2),A.2-Y.2,A.2-X.2,Int.mul_pos (by lia) (by lia),by lia,by lia,by lia,by lia,by grind,by unfold AE at h;grind⟩
theorem S7{A X B:Pt}(f:CV A X B)(h:(A.2<X.2/\A.2<B.2)\/(X.2<A.2/\B.2<A.2)):AE A X B≠0:=λc=>by
 unfold AE at c;rcases h with⟨h1,h2⟩|⟨h1,h2⟩
 ·have:=(f (B.2-A.2) (X.2-A.2) (by lia) (by lia) (by grind) (by grind)).1;lia
 ·have:=(f (A.2-B.2) (A.2-X.2) (by lia) (by lia) (by grind) (by grind)).1;lia
section
variable{r:List Pt}(S:BD r){i:Int}(gU:yy r (i-1)≠yy r i)(gV:yy r (i+1)≠yy r i)
include S gU gV
theorem BD.BX{k:Int}(h:(i-k)%(r.length:Int)=0\/(i-k)%(r.length:Int)=1):¬ Lt (AA r i) (AA r i) (AA r k) (AA r (k+1)):=by
 have h3:=S.l3;rcases h with a|b
 ·rw[<-An a,<-An (Bx a)];rintro⟨q,s,t,hq,s0,s1,t0,t1,e,l⟩;unfold yy at gV;have:t*((AA r (i+1)).2-(AA r i).2)=0:=by grind
  rcases Int.mul_eq_zero.mp this with z|z
  ·rw[z]at l;grind
  ·lia
 ·have e:=S.next b;have e0:AA r k=AA r (i-1):=(An (by have:=EK (by lia) b;exact this)).symm;rw[<-e.1,e0];rintro⟨q,s,t,hq,s0,s1,t0,t1,e,l⟩;unfold yy at gU;have:(q-t)*((AA r (i-1)).2-(AA r i).2)=0:=by grind
  rcases Int.mul_eq_zero.mp this with z|z
  ·have:t=q:=by lia
   rw[this]at l;grind
  ·lia
theorem BD.VS{k:Int}(a:(i-k)%(r.length:Int)≠0)(b:(i-k)%(r.length:Int)≠1){q s:Int}(hq:0<q)(s0:0<=s)(s1:s<=q)(e:q*(AA r k).2+s*((AA r (k+1)).2-(AA r k).2)=q*yy r i) : (q*(AA r i).1<q*(AA r k).1+s*((AA r (k+1)).1-(AA r k).1)/\Lt (AA r i) (AA r i) (AA r k) (AA r (k+1)))\/(q*(AA r k).1+s*((AA r (k+1)).1-(AA r k).1)<q*(AA r i).1/\Lt (AA r k) (AA r (k+1)) (AA r i) (AA r i)/\¬ Lt (AA r i) (AA r i) (AA r k) (AA r (k+1))):=by
 have o:=S.off a b hq s0 s1 e;unfold yy at e;have ns:¬ B0 (AA r i) (AA r i) (AA r k) (AA r (k+1)):=by
  rintro⟨q',s',t',h1,h2,h3,h4,h5,e1,e2⟩;exact S.off a b (q:=q') (s:=t') h1 h4 h5 (by grind) (by grind)
 rcases Int.lt_or_gt_of_ne o with z|z
 ·have l:Lt (AA r k) (AA r (k+1)) (AA r i) (AA r i):=⟨q,s,0,hq,s0,s1,by lia,by lia,by rw[e];lia,by lia⟩;exact .inr ⟨z,l,λc=>UL ns c l⟩
 ·exact .inl ⟨z,⟨q,0,s,hq,by lia,by lia,s0,s1,by rw[e];lia,by lia⟩⟩
theorem BD.fF:NN r (yy r i) i=NN r (yy r i-1) i:=by
 have key:∀k:Int,ind (Lt (AA r i) (AA r i) (AA r k) (AA r (k+1)))*AN r (yy r i) k=ind (Lt (AA r i) (AA r i) (AA r k) (AA r (k+1)))*AN r (yy r i-1) k+(ind (yy r k=yy r i/\(AA r i).1<(AA r k).1)-ind (yy r (k+1)=yy r i/\(AA r i).1<(AA r (k+1)).1)):=by
  intro k;have hd:=Qw r (yy r i) k;by_cases F6:(i-k)%(r.length:Int)=0\/(i-k)%(r.length:Int)=1
  ·rw[Aa (S.BX gU gV F6)];have g:ind (yy r k=yy r i/\(AA r i).1<(AA r k).1)=0/\ind (yy r (k+1)=yy r i/\(AA r i).1<(AA r (k+1)).1)=0:=by
    have h3:=S.l3;rcases F6 with a|b
    ·rw[<-An a,<-An (Bx a),<-DN a,<-DN (Bx a)];exact⟨Aa λc=>by have:=c.2;lia,Aa λc=>gV c.1⟩
    ·have e:=S.next b;have e0:(i-1-k)%(r.length:Int)=0:=by have:=EK (by lia) b;exact this
     refine⟨Aa λc=>?_,Aa λc=>?_⟩
     ·rw[<-DN e0]at c;exact gU c.1
     ·rw[<-e.1]at c;have:=c.2;lia
   rw[g.1,g.2];lia
  ·have a:(i-k)%(r.length:Int)≠0:=λc=>F6 (.inl c);have b:(i-k)%(r.length:Int)≠1:=λc=>F6 (.inr c);refine comb (x:=ind (yy r k=yy r i)) (y:=ind (yy r (k+1)=yy r i)) (by lia) ?_ ?_
   ·by_cases a1:yy r k=yy r i
    ·refine .inl ⟨Ay a1,?_⟩;rcases S.VS gU gV a b (q:=1) (s:=0) (by lia) (by lia) (by lia) (by rw[show(AA r k).2=yy r i from a1];lia)with⟨z,l⟩|⟨z,_,l⟩
     ·rw[Ay l,Ay ⟨a1,by lia⟩]
     ·rw[Aa l,Aa (λc=>by have:=c.2;lia)]
    ·exact .inr ⟨Aa a1,Aa (λc=>a1 c.1)⟩
   ·by_cases a2:yy r (k+1)=yy r i
    ·refine .inl ⟨Ay a2,?_⟩;rcases S.VS gU gV a b (q:=1) (s:=1) (by lia) (by lia) (by lia) (by rw[show(AA r (k+1)).2=yy r i from a2];lia)with⟨z,l⟩|⟨z,_,l⟩
     ·rw[Ay l,Ay ⟨a2,by lia⟩]
     ·rw[Aa l,Aa (λc=>by have:=c.2;lia)]
    ·exact .inr ⟨Aa a2,Aa (λc=>a2 c.1)⟩
 unfold NN;rw[B5 (g:=λk=>ind (Lt (AA r i) (AA r i) (AA r k) (AA r (k+1)))*AN r (yy r i-1) k+(ind (yy r k=yy r i/\(AA r i).1<(AA r k).1)-ind (yy r (k+1)=yy r i/\(AA r i).1<(AA r (k+1)).1))) λk _=>key k];rw[Ew (λk=>ind (Lt (AA r i) (AA r i) (AA r k) (AA r (k+1)))*AN r (yy r i-1) k) (λk=>ind (yy r k=yy r i/\(AA r i).1<(AA r k).1)-ind (yy r (k+1)=yy r i/\(AA r i).1<(AA r (k+1)).1))];have ht:=IT (λk=>- ind (yy r k=yy r i/\(AA r i).1<(AA r k).1)) r.length;have hc:AA r (r.length:Int)=AA r 0:=An (by simp);have hy:yy r (r.length:Int)=yy r 0:=by unfold yy;rw[hc]
 rw[hc,hy]at ht;rw[B5 (g:=λk=>- ind (yy r (k+1)=yy r i/\(AA r i).1<(AA r (k+1)).1) - - ind (yy r k=yy r i/\(AA r i).1<(AA r k).1)) (f:=λk=>ind (yy r k=yy r i/\(AA r i).1<(AA r k).1)-ind (yy r (k+1)=yy r i/\(AA r i).1<(AA r (k+1)).1)) λk _=>by lia,ht];lia
theorem BD.star{Z:Pt}(hZ:∀k:Int,(i-k)%(r.length:Int)≠0->(i-k)%(r.length:Int)≠1->Lt (AA r i) Z (AA r k) (AA r (k+1))->¬ Lt (AA r k) (AA r (k+1)) (AA r i) Z){H:Int}(hH:H=yy r i\/H=yy r i-1) : RQ r H (AA r i) Z=NN r (yy r i) i+(ind (Lt (AA r i) Z (AA r i) (AA r (i-1)))*AN r H (i-1)+ind (Lt (AA r i) Z (AA r i) (AA r (i+1)))*AN r H i):=by
 have h3:=S.l3;have hN:NN r (yy r i) i=NN r H i:=by
  rcases hH with rfl|rfl
  ·rfl
  ·exact S.fF gU gV
 have hp:∀a b:Int,(a-b)%(r.length:Int)=0->ind (Lt (AA r i) Z (AA r a) (AA r (a+1)))*AN r H a-ind (Lt (AA r i) (AA r i) (AA r a) (AA r (a+1)))*AN r H a=ind (Lt (AA r i) Z (AA r b) (AA r (b+1)))*AN r H b-ind (Lt (AA r i) (AA r i) (AA r b) (AA r (b+1)))*AN r H b:=λa b z=>by
  rw[An z,An (Bx z),GJ z]
 have hd:RQ r H (AA r i) Z=NN r H i+AW (λk=>ind (Lt (AA r i) Z (AA r k) (AA r (k+1)))*AN r H k-ind (Lt (AA r i) (AA r i) (AA r k) (AA r (k+1)))*AN r H k) r.length:=by
  unfold RQ NN;rw[<-Ew];exact B5 λk _=>by lia
 rw[hd,hN,<-Q2 (f:=λk=>ind (Lt (AA r i) Z (AA r k) (AA r (k+1)))*AN r H k-ind (Lt (AA r i) (AA r i) (AA r k) (AA r (k+1)))*AN r H k) (n:=r.length) (by lia) hp (i-1)]
 congr 1
 rw[Vd (c:=0) (d:=1) (by lia) (by lia) λm hm m0 m1=>?_]
 ·show ind (Lt (AA r i) Z (AA r (i-1+0)) (AA r (i-1+0+1)))*AN r H (i-1+0)-ind (Lt (AA r i) (AA r i) (AA r (i-1+0)) (AA r (i-1+0+1)))*AN r H (i-1+0)+(ind (Lt (AA r i) Z (AA r (i-1+1)) (AA r (i-1+1+1)))*AN r H (i-1+1)-ind (Lt (AA r i) (AA r i) (AA r (i-1+1)) (AA r (i-1+1+1)))*AN r H (i-1+1))=_;rw[show i-1+0=i-1 by lia,show i-1+1=i by lia];have r1:=S.BX gU gV (k:=i-1) (.inr (by rw[show i-(i-1)=1 by lia,Int.emod_eq_of_lt (by lia) (by lia)]));have r2:=S.BX gU gV (k:=i) (.inl (by simp));rw[show i-1+1=i by lia]at r1;rw[Aa r1,Aa r2];have e:ind (Lt (AA r i) Z (AA r (i-1)) (AA r i))=ind (Lt (AA r i) Z (AA r i) (AA r (i-1))):=by
   by_cases c:Lt (AA r i) Z (AA r (i-1)) (AA r i)
   ·rw[Ay c,Ay (GB c)]
   ·rw[Aa c,Aa λz=>c (GB z)]
  rw[e];lia
 ·show ind (Lt (AA r i) Z (AA r (i-1+(m:Int))) (AA r (i-1+(m:Int)+1)))*AN r H (i-1+(m:Int))-ind (Lt (AA r i) (AA r i) (AA r (i-1+(m:Int))) (AA r (i-1+(m:Int)+1)))*AN r H (i-1+(m:Int))=0;have a:(i-(i-1+(m:Int)))%(r.length:Int)≠0:=λc=>by
   have:=Ci c;rw[show i-1+(m:Int)-i=m-1 by lia,Int.emod_eq_of_lt (by lia) (by lia)]at this;lia
  have b:(i-(i-1+(m:Int)))%(r.length:Int)≠1:=λc=>by
   have:=Ci (EK (by lia) c);rw[show i-1+(m:Int)-(i-1)=m by lia,Int.emod_eq_of_lt (by lia) (by lia)]at this;lia
  generalize i-1+(m:Int)=k at a b ⊢;by_cases hz:AN r H k=0
  ·rw[hz];lia
  ·have rs:=Dc hz;obtain⟨q,s,hq,s0,s1,ey,_,_⟩:=L6 (a:=AA r k) (b:=AA r (k+1)) (h:=yy r i) (by show yy r k≠yy r (k+1);lia) (by unfold yy at rs hH ⊢;lia);rcases S.VS gU gV a b hq s0 s1 ey with⟨_,l⟩|⟨_,l,l'⟩
   ·rw[Ay l,Ay (show Lt (AA r i) Z (AA r k) (AA r (k+1))from P8 l)];lia
   ·have n1:¬ Lt (AA r i) Z (AA r k) (AA r (k+1)):=λc=>hZ k a b c (Lv l);rw[Aa l',Aa n1];lia
end
theorem F7{p:Prop}{x:Int}(h:p↔x>0):(x>0/\ind p=1)\/(x<=0/\ind p=0):=by
 by_cases c:x>0
 ·exact .inl ⟨c,Ay (h.mpr c)⟩
 ·exact .inr ⟨by lia,Aa λz=>c (h.mp z)⟩
theorem Je{p q t a b c:Int}(hp:0<p)(hq:0<q)(ht:0<t)(h:p*a=q*c+t*b)(ha:a≠0\/b≠0\/c≠0):(0<a\/b<0\/c<0)/\(a<0\/0<b\/0<c):=by
 have z:p*a=0->q*c=0->t*b=0->False:=λx y z=>by
  have x:=Int.mul_eq_zero.mp x;have y:=Int.mul_eq_zero.mp y;have z:=Int.mul_eq_zero.mp z;lia
 constructor
 ·by_cases x:0<a
  ·exact .inl x
  ·by_cases y:b<0
   ·exact .inr (.inl y)
   ·by_cases w:c<0
    ·exact .inr (.inr w)
    ·have m1:=Int.mul_nonpos_of_nonneg_of_nonpos (Int.le_of_lt hp) (show a<=0 by lia);have m2:=Int.mul_nonneg (Int.le_of_lt hq) (show 0<=c by lia);have m3:=Int.mul_nonneg (Int.le_of_lt ht) (show 0<=b by lia);clear ha x y w hp hq ht;exact(z (by lia) (by lia) (by lia)).elim
 ·by_cases x:a<0
  ·exact .inl x
  ·by_cases y:0<b
   ·exact .inr (.inl y)
   ·by_cases w:0<c
    ·exact .inr (.inr w)
    ·have m1:=Int.mul_nonneg (Int.le_of_lt hp) (show 0<=a by lia);have m2:=Int.mul_nonpos_of_nonneg_of_nonpos (Int.le_of_lt hq) (show c<=0 by lia);have m3:=Int.mul_nonpos_of_nonneg_of_nonpos (Int.le_of_lt ht) (show b<=0 by lia);clear ha x y w hp hq ht;exact(z (by lia) (by lia) (by lia)).elim
theorem Il{a b c E:Int}(h:(a>0/\b>0/\c>0)\/(¬ a>0/\(b>0\/c>0)))(e:E=1):(E=1/\((a>0/\b>0/\c>0)\/(¬ a>0/\(b>0\/c>0))))\/(E=0/\¬ ((a>0/\b>0/\c>0)\/(¬ a>0/\(b>0\/c>0)))):=.inl ⟨e,h⟩
theorem Ik{a b c E:Int}(h:¬ ((a>0/\b>0/\c>0)\/(¬ a>0/\(b>0\/c>0))))(e:E=0):(E=1/\((a>0/\b>0/\c>0)\/(¬ a>0/\(b>0\/c>0))))\/(E=0/\¬ ((a>0/\b>0/\c>0)\/(¬ a>0/\(b>0\/c>0)))):=.inr ⟨e,h⟩
theorem jR{a b c N i1 i2 i3:Int}(ha:a≠0)(hb:b≠0)(hc : -c≠0)(hN:N+i1=1)(k1:((a>0/\i1=1)\/(a<=0/\i1=0)))(k2:((c>0/\i2=1)\/(c<=0/\i2=0)))(k3:((-b>0/\i3=1)\/(-b<=0/\i3=0)))(tr:((0<a\/b<0\/c<0)/\(a<0\/0<b\/0<c))):(N+(i2*1+i3 * -1)=1/\((a>0/\b>0/\c>0)\/(¬ a>0/\(b>0\/c>0))))\/(N+(i2*1+i3 * -1)=0/\¬ ((a>0/\b>0/\c>0)\/(¬ a>0/\(b>0\/c>0)))):=by
 rcases k1 with⟨x1,rfl⟩|⟨x1,rfl⟩<;>rcases k2 with⟨x2,rfl⟩|⟨x2,rfl⟩<;>rcases k3 with⟨x3,rfl⟩|⟨x3,rfl⟩<;>first|(refine Il ?_ (by clear tr;lia);lia)|(refine Ik ?_ (by clear tr;lia);lia)|(exfalso;lia)
theorem jS{a b c N i2 j:Int}(hc : -c≠0)(hN:N=0)(k2:((c>0/\i2=1)\/(c<=0/\i2=0)))(tr:((0<a\/b<0\/-c<0)/\(a<0\/0<b\/0 < -c))):(N+(i2*1+j*0)=1/\((a>0/\b>0/\c>0)\/(¬ a>0/\(b>0\/c>0))))\/(N+(i2*1+j*0)=0/\¬ ((a>0/\b>0/\c>0)\/(¬ a>0/\(b>0\/c>0)))):=by
 rcases k2 with⟨x2,rfl⟩|⟨x2,rfl⟩<;>first|(refine Il ?_ (by clear tr;lia);lia)|(refine Ik ?_ (by clear tr;lia);lia)|(exfalso;lia)
theorem jT{a b c N i3 j:Int}(hb:b≠0)(hN:N=1)(k3:((-b>0/\i3=1)\/(-b<=0/\i3=0)))(tr:((0<a\/-b<0\/c<0)/\(a<0\/0 < -b\/0<c))):(N+(j*0+i3 * -1)=1/\((a>0/\b>0/\c>0)\/(¬ a>0/\(b>0\/c>0))))\/(N+(j*0+i3 * -1)=0/\¬ ((a>0/\b>0/\c>0)\/(¬ a>0/\(b>0\/c>0)))):=by
 rcases k3 with⟨x3,rfl⟩|⟨x3,rfl⟩<;>first|(refine Il ?_ (by clear tr;lia);lia)|(refine Ik ?_ (by clear tr;lia);lia)|(exfalso;lia)
theorem jU{a b c N i1 j j2:Int}(ha:a≠0)(hN:N=i1)(k1:((-a>0/\i1=1)\/(-a<=0/\i1=0)))(tr:((0<a\/-b<0\/-c<0)/\(a<0\/0 < -b\/0 < -c))):(N+(j*0+j2*0)=1/\((a>0/\b>0/\c>0)\/(¬ a>0/\(b>0\/c>0))))\/(N+(j*0+j2*0)=0/\¬ ((a>0/\b>0/\c>0)\/(¬ a>0/\(b>0\/c>0)))):=by
 rcases k1 with⟨x1,rfl⟩|⟨x1,rfl⟩<;>first|(refine Il ?_ (by clear tr;lia);lia)|(refine Ik ?_ (by clear tr;lia);lia)|(exfalso;lia)
theorem jV{a b c N i1 j j2:Int}(ha:a≠0)(hN:N+i1=1)(k1:((a>0/\i1=1)\/(a<=0/\i1=0)))(tr:((0<a\/-b<0\/-c<0)/\(a<0\/0 < -b\/0 < -c))):(N+(j*0+j2*0)=1/\((a>0/\b>0/\c>0)\/(¬ a>0/\(b>0\/c>0))))\/(N+(j*0+j2*0)=0/\¬ ((a>0/\b>0/\c>0)\/(¬ a>0/\(b>0\/c>0)))):=by
 rcases k1 with⟨x1,rfl⟩|⟨x1,rfl⟩<;>first|(refine Il ?_ (by clear tr;lia);lia)|(refine Ik ?_ (by clear tr;lia);lia)|(exfalso;lia)
theorem jW{a b c N i3 j:Int}(hb:b≠0)(hN:N=0)(k3:((b>0/\i3=1)\/(b<=0/\i3=0)))(tr:((0<a\/-b<0\/c<0)/\(a<0\/0 < -b\/0<c))):(N+(j*0+i3*1)=1/\((a>0/\b>0/\c>0)\/(¬ a>0/\(b>0\/c>0))))\/(N+(j*0+i3*1)=0/\¬ ((a>0/\b>0/\c>0)\/(¬ a>0/\(b>0\/c>0)))):=by
 rcases k3 with⟨x3,rfl⟩|⟨x3,rfl⟩<;>first|(refine Il ?_ (by clear tr;lia);lia)|(refine Ik ?_ (by clear tr;lia);lia)|(exfalso;lia)
theorem jX{a b c N i2 j:Int}(hc : -c≠0)(hN:N=1)(k2:((-c>0/\i2=1)\/(-c<=0/\i2=0)))(tr:((0<a\/b<0\/-c<0)/\(a<0\/0<b\/0 < -c))):(N+(i2 * -1+j*0)=1/\((a>0/\b>0/\c>0)\/(¬ a>0/\(b>0\/c>0))))\/(N+(i2 * -1+j*0)=0/\¬ ((a>0/\b>0/\c>0)\/(¬ a>0/\(b>0\/c>0)))):=by
 rcases k2 with⟨x2,rfl⟩|⟨x2,rfl⟩<;>first|(refine Il ?_ (by clear tr;lia);lia)|(refine Ik ?_ (by clear tr;lia);lia)|(exfalso;lia)
theorem jY{a b c N i1 i2 i3:Int}(ha:a≠0)(hb:b≠0)(hc : -c≠0)(hN:N=i1)(k1:((-a>0/\i1=1)\/(-a<=0/\i1=0)))(k2:((-c>0/\i2=1)\/(-c<=0/\i2=0)))(k3:((b>0/\i3=1)\/(b<=0/\i3=0)))(tr:((0<a\/b<0\/c<0)/\(a<0\/0<b\/0<c))):(N+(i2 * -1+i3*1)=1/\((a>0/\b>0/\c>0)\/(¬ a>0/\(b>0\/c>0))))\/(N+(i2 * -1+i3*1)=0/\¬ ((a>0/\b>0/\c>0)\/(¬ a>0/\(b>0\/c>0)))):=by
 rcases k1 with⟨x1,rfl⟩|⟨x1,rfl⟩<;>rcases k2 with⟨x2,rfl⟩|⟨x2,rfl⟩<;>rcases k3 with⟨x3,rfl⟩|⟨x3,rfl⟩<;>first|(refine Il ?_ (by clear tr;lia);lia)|(refine Ik ?_ (by clear tr;lia);lia)|(exfalso;lia)
theorem uc{yA yB yU yV a b c:Int}(h:(yB-yA)*a=(yV-yA)*c+(yU-yA)*b):(yA-yB)*a=(yA-yV)*c+(yA-yU)*b:=by grind
theorem ud{yA yB yU yV a b c:Int}(h:(yB-yA)*a=(yV-yA)*c+(yU-yA)*b):(yA-yB)*a=(yV-yA) * -c+(yA-yU)*b:=by grind
theorem ue{yA yB yU yV a b c:Int}(h:(yB-yA)*a=(yV-yA)*c+(yU-yA)*b):(yA-yB)*a=(yA-yV)*c+(yU-yA) * -b:=by grind
theorem uf{yA yB yU yV a b c:Int}(h:(yB-yA)*a=(yV-yA)*c+(yU-yA)*b):(yA-yB)*a=(yV-yA) * -c+(yU-yA) * -b:=by grind
theorem ug{yA yB yU yV a b c:Int}(h:(yB-yA)*a=(yV-yA)*c+(yU-yA)*b):(yB-yA)*a=(yA-yV) * -c+(yA-yU) * -b:=by grind
theorem uh{yA yB yU yV a b c:Int}(h:(yB-yA)*a=(yV-yA)*c+(yU-yA)*b):(yB-yA)*a=(yV-yA)*c+(yA-yU) * -b:=by grind
theorem ui{yA yB yU yV a b c:Int}(h:(yB-yA)*a=(yV-yA)*c+(yU-yA)*b):(yB-yA)*a=(yA-yV) * -c+(yU-yA)*b:=by grind
theorem uj{yA yB yU yV a b c:Int}(h:(yB-yA)*a=(yV-yA)*c+(yU-yA)*b):(yB-yA)*a=(yV-yA)*c+(yU-yA)*b:=by grind
def DC(U A V B:Pt):Prop:=(AE U A V>0/\AE A V B>0/\AE U A B>0)\/(¬ AE U A V>0/\(AE A V B>0\/AE U A B>0))
theorem Probe.Oy{r:List Pt}(S:BD r)(C:∀{h j:Int},AN r h j≠0->cc r h j=1){i j:Int}(p:Probe r i j)(gU:yy r (i-1)≠yy r i)(gV:yy r (i+1)≠yy r i)(gB:yy r j≠yy r i) : ∃H,((yy r i<=H/\H<yy r j)\/(yy r j<=H/\H<yy r i))/\((RQ r H (AA r i) (AA r j)=1/\DC (AA r (i-1)) (AA r i) (AA r (i+1)) (AA r j))\/(RQ r H (AA r i) (AA r j)=0/\¬ DC (AA r (i-1)) (AA r i) (AA r (i+1)) (AA r j))):=by
 have h3:=S.l3;have em:i-1+1=i:=by lia
 have sQ:=λ{H:Int}(hH:H=yy r i\/H=yy r i-1)=>S.star gU gV (Z:=AA r j) (λk _ _ c=>p.nc S k c) hH;have sV:=λ{H:Int}(hH:H=yy r i\/H=yy r i-1)=>S.star gU gV (Z:=AA r (i+1)) (λk a _ c=>S.nc (i:=i) (j:=k) a c) hH;have sU:=λ{H:Int}(hH:H=yy r i\/H=yy r i-1)=>S.star gU gV (Z:=AA r (i-1)) (λk _ b c z=>by
  have Aw:(i-1-k)%(r.length:Int)≠0:=λw=>b (by
   have:=mod_succ (n:=(r.length:Int)) (by lia) w;rw[show i-1+1-k=i-k by lia]at this;exact this)
  refine S.nc (i:=i-1) (j:=k) Aw ?_ ?_
  ·unfold L;rw[em];exact Fb c
  ·unfold L;rw[em];exact GB z) hH
 have eV:∀H,RQ r H (AA r i) (AA r (i+1))=Rr r H i:=λH=>rfl;have eU:∀H,RQ r H (AA r i) (AA r (i-1))=Rr r H (i-1):=λH=>by
  unfold RQ Rr;refine B5 λk _=>?_
  congr 1
  unfold L;rw[em];by_cases c:Lt (AA r i) (AA r (i-1)) (AA r (k:Int)) (AA r ((k:Int)+1))
  ·rw[Ay c,Ay (Fb c)]
  ·rw[Aa c,Aa λz=>c (Fb z)]
 have iV:ind (Lt (AA r i) (AA r (i+1)) (AA r i) (AA r (i+1)))=0:=Aa (Fs r i (λc=>gV c.symm));have iU:ind (Lt (AA r i) (AA r (i-1)) (AA r i) (AA r (i-1)))=0:=Aa λc=>Fs r (i-1) (by rw[em];exact gU) (by unfold L;rw[em];exact Fb (GB c));have fA:CV (AA r i) (AA r (i-1)) (AA r (i+1)):=by
  have:=S.fork (i-1);rw[em]at this;exact this
 have f1:=p.M1 S;have f2:=p.KC S;have JK:((AA r j).2-(AA r i).2)*AE (AA r (i-1)) (AA r i) (AA r (i+1))=((AA r (i+1)).2-(AA r i).2)*AE (AA r (i-1)) (AA r i) (AA r j)+((AA r (i-1)).2-(AA r i).2)*AE (AA r i) (AA r (i+1)) (AA r j):=by unfold AE;grind
 have t1:AE (AA r i) (AA r (i-1)) (AA r j) = - AE (AA r (i-1)) (AA r i) (AA r j):=by unfold AE;grind
 have t2:AE (AA r i) (AA r j) (AA r (i-1))=AE (AA r (i-1)) (AA r i) (AA r j):=by unfold AE;grind
 have t3:AE (AA r i) (AA r j) (AA r (i+1)) = - AE (AA r i) (AA r (i+1)) (AA r j):=by unfold AE;grind
 have t4:AE (AA r i) (AA r (i-1)) (AA r (i+1)) = - AE (AA r (i-1)) (AA r i) (AA r (i+1)):=by unfold AE;grind
 have t5:AE (AA r i) (AA r (i+1)) (AA r (i-1))=AE (AA r (i-1)) (AA r i) (AA r (i+1)):=by unfold AE;grind
 have Pb:((AA r i).2<(AA r (i-1)).2/\(AA r i).2<(AA r (i+1)).2)\/((AA r (i-1)).2<(AA r i).2/\(AA r (i+1)).2<(AA r i).2)->AE (AA r (i-1)) (AA r i) (AA r (i+1))≠0:=λh c=>S7 fA h (by rw[t4,c];rfl);have PJ:=S7 f1;have PK:=S7 f2;have uU:yy r (i-1)=(AA r (i-1)).2:=rfl;have uV:yy r (i+1)=(AA r (i+1)).2:=rfl;have uA:yy r i=(AA r i).2:=rfl;have uB:yy r j=(AA r j).2:=rfl;have cV:∀{H:Int},AN r H i≠0->Rr r H i+ind (yy r i<yy r (i+1))=1:=λh=>C h;have cU:∀{H:Int},AN r H (i-1)≠0->Rr r H (i-1)+ind (yy r (i-1)<yy r i)=1:=λh=>by
  have:=C h;unfold cc at this;rw[em]at this;exact this
 have key:∀(H:Int)(z:Int),RQ r H (AA r i) (AA r j)=z->((z=1/\DC (AA r (i-1)) (AA r i) (AA r (i+1)) (AA r j))\/(z=0/\¬ DC (AA r (i-1)) (AA r i) (AA r (i+1)) (AA r j)))->((RQ r H (AA r i) (AA r j)=1/\DC (AA r (i-1)) (AA r i) (AA r (i+1)) (AA r j))\/(RQ r H (AA r i) (AA r j)=0/\¬ DC (AA r (i-1)) (AA r i) (AA r (i+1)) (AA r j))):=λH z e h=>by rw[e];exact h
 unfold DC;unfold DC at key;rcases Int.lt_or_gt_of_ne gB with bB|bB
 ·-- Kt Vr jw down
  refine⟨yy r i-1,.inr ⟨by lia,by lia⟩,key _ _ (sQ (.inr rfl)) ?_⟩;rcases Int.lt_or_gt_of_ne gU with bU|bU<;>rcases Int.lt_or_gt_of_ne gV with bV|bV
  ·-- both below
   have n1:=PJ (.inr ⟨by lia,by lia⟩);have n2:=PK (.inr ⟨by lia,by lia⟩);have s1:AN r (yy r i-1) (i-1)=1:=by unfold AN;rw[em,if_pos ⟨by lia,by lia⟩]
   have s2:AN r (yy r i-1) i = -1:=Fh (by lia) (by lia);have e1:=sV (.inr rfl);rw[eV,iV,s1,s2]at e1;have c1:=cV (H:=yy r i-1) (by lia);rw[Aa (by lia)]at c1;have k1:=F7 (LS (A:=AA r i) (X:=AA r (i+1)) (Y:=AA r (i-1)) (by lia) (by lia));have k2:=F7 (LS (A:=AA r i) (X:=AA r j) (Y:=AA r (i-1)) (by lia) (by lia));have k3:=F7 (LS (A:=AA r i) (X:=AA r j) (Y:=AA r (i+1)) (by lia) (by lia));rw[t5]at k1;rw[t2]at k2;rw[t3]at k3;rw[t1]at n2;rw[s1,s2];have FV:=Pb (.inr ⟨bU,bV⟩);exact jR FV n1 n2 (by lia) k1 k2 k3 (Je (p:=((AA r i).2-(AA r j).2)) (q:=((AA r i).2-(AA r (i+1)).2)) (t:=((AA r i).2-(AA r (i-1)).2)) (b:=AE (AA r i) (AA r (i+1)) (AA r j)) (c:=AE (AA r (i-1)) (AA r i) (AA r j)) (by lia) (by lia) (by lia) (uc JK) (.inl FV))
  ·-- U below,V above
   have n2:=PK (.inr ⟨by lia,by lia⟩);have s1:AN r (yy r i-1) (i-1)=1:=by unfold AN;rw[em,if_pos ⟨by lia,by lia⟩]
   have s2:AN r (yy r i-1) i=0:=by unfold AN;rw[if_neg (by lia),if_neg (by lia)]
   have e1:=sU (.inr rfl);rw[eU,iU,s1,s2]at e1;have c1:=cU (H:=yy r i-1) (by lia);rw[Ay (by lia)]at c1;have k2:=F7 (LS (A:=AA r i) (X:=AA r j) (Y:=AA r (i-1)) (by lia) (by lia));rw[t2]at k2;rw[t1]at n2;rw[s1,s2];exact jS n2 (by lia) k2 (Je (p:=((AA r i).2-(AA r j).2)) (q:=((AA r (i+1)).2-(AA r i).2)) (t:=((AA r i).2-(AA r (i-1)).2)) (b:=AE (AA r i) (AA r (i+1)) (AA r j)) (c:=-AE (AA r (i-1)) (AA r i) (AA r j)) (by lia) (by lia) (by lia) (ud JK) (.inr (.inr n2)))
  ·-- U above,V below
   have n1:=PJ (.inr ⟨by lia,by lia⟩);have s1:AN r (yy r i-1) (i-1)=0:=by unfold AN;rw[em,if_neg (by lia),if_neg (by lia)]
   have s2:AN r (yy r i-1) i = -1:=Fh (by lia) (by lia);have e1:=sV (.inr rfl);rw[eV,iV,s1,s2]at e1;have c1:=cV (H:=yy r i-1) (by lia);rw[Aa (by lia)]at c1;have k3:=F7 (LS (A:=AA r i) (X:=AA r j) (Y:=AA r (i+1)) (by lia) (by lia));rw[t3]at k3;rw[s1,s2];exact jT n1 (by lia) k3 (Je (p:=((AA r i).2-(AA r j).2)) (q:=((AA r i).2-(AA r (i+1)).2)) (t:=((AA r (i-1)).2-(AA r i).2)) (b:=-AE (AA r i) (AA r (i+1)) (AA r j)) (c:=AE (AA r (i-1)) (AA r i) (AA r j)) (by lia) (by lia) (by lia) (ue JK) (.inr (.inl (Int.neg_ne_zero.mpr n1))))
  ·-- both above
   have s1:AN r (yy r i-1) (i-1)=0:=by unfold AN;rw[em,if_neg (by lia),if_neg (by lia)]
   have s2:AN r (yy r i-1) i=0:=by unfold AN;rw[if_neg (by lia),if_neg (by lia)]
   have s3:AN r (yy r i) (i-1) = -1:=by unfold AN;rw[em,if_neg (by lia),if_pos ⟨by lia,by lia⟩]
   have s4:AN r (yy r i) i=1:=Fi (by lia) (by lia);have e1:=sV (.inl rfl);rw[eV,iV,s3,s4]at e1;have c1:=cV (H:=yy r i) (by lia);rw[Ay (by lia)]at c1;have k1:=F7 (Jy (A:=AA r i) (X:=AA r (i+1)) (Y:=AA r (i-1)) (by lia) (by lia));rw[t4]at k1;rw[s1,s2];have FV:=Pb (.inl ⟨bU,bV⟩);exact jU FV (by omega) k1 (Je (p:=((AA r i).2-(AA r j).2)) (q:=((AA r (i+1)).2-(AA r i).2)) (t:=((AA r (i-1)).2-(AA r i).2)) (b:=-AE (AA r i) (AA r (i+1)) (AA r j)) (c:=-AE (AA r (i-1)) (AA r i) (AA r j)) (by omega) (by omega) (by omega) (uf JK) (.inl FV))
 ·-- Kt Vr jw up
  refine⟨yy r i,.inl ⟨by omega,by omega⟩,key _ _ (sQ (.inl rfl)) ?_⟩;rcases Int.lt_or_gt_of_ne gU with bU|bU<;>rcases Int.lt_or_gt_of_ne gV with bV|bV
  ·-- both below
   have s1:AN r (yy r i) (i-1)=0:=by unfold AN;rw[em,if_neg (by lia),if_neg (by lia)]
   have s2:AN r (yy r i) i=0:=by unfold AN;rw[if_neg (by lia),if_neg (by lia)]
   have s3:AN r (yy r i-1) (i-1)=1:=by unfold AN;rw[em,if_pos ⟨by lia,by lia⟩]
   have s4:AN r (yy r i-1) i = -1:=Fh (by lia) (by lia);have e1:=sV (.inr rfl);rw[eV,iV,s3,s4]at e1;have c1:=cV (H:=yy r i-1) (by lia);rw[Aa (by lia)]at c1;have k1:=F7 (LS (A:=AA r i) (X:=AA r (i+1)) (Y:=AA r (i-1)) (by omega) (by omega));rw[t5]at k1;rw[s1,s2];have FV:=Pb (.inr ⟨bU,bV⟩);exact jV FV (by omega) k1 (Je (p:=((AA r j).2-(AA r i).2)) (q:=((AA r i).2-(AA r (i+1)).2)) (t:=((AA r i).2-(AA r (i-1)).2)) (b:=-AE (AA r i) (AA r (i+1)) (AA r j)) (c:=-AE (AA r (i-1)) (AA r i) (AA r j)) (by omega) (by omega) (by omega) (ug JK) (.inl FV))
  ·-- U below,V above
   have n1:=PJ (.inl ⟨by omega,by omega⟩);have s1:AN r (yy r i) (i-1)=0:=by unfold AN;rw[em,if_neg (by omega),if_neg (by omega)]
   have s2:AN r (yy r i) i=1:=Fi (by omega) (by omega);have e1:=sV (.inl rfl);rw[eV,iV,s1,s2]at e1;have c1:=cV (H:=yy r i) (by omega);rw[Ay (by omega)]at c1;have k3:=F7 (Jy (A:=AA r i) (X:=AA r j) (Y:=AA r (i+1)) (by omega) (by omega));rw[s1,s2];exact jW n1 (by omega) k3 (Je (p:=((AA r j).2-(AA r i).2)) (q:=((AA r (i+1)).2-(AA r i).2)) (t:=((AA r i).2-(AA r (i-1)).2)) (b:=-AE (AA r i) (AA r (i+1)) (AA r j)) (c:=AE (AA r (i-1)) (AA r i) (AA r j)) (by omega) (by omega) (by omega) (uh JK) (.inr (.inl (Int.neg_ne_zero.mpr n1))))
  ·-- U above,V below
   have n2:=PK (.inl ⟨by omega,by omega⟩);have s1:AN r (yy r i) (i-1) = -1:=by unfold AN;rw[em,if_neg (by omega),if_pos ⟨by omega,by omega⟩]
   have s2:AN r (yy r i) i=0:=by unfold AN;rw[if_neg (by omega),if_neg (by omega)]
   have e1:=sU (.inl rfl);rw[eU,iU,s1,s2]at e1;have c1:=cU (H:=yy r i) (by omega);rw[Aa (by lia)]at c1;have k2:=F7 (Jy (A:=AA r i) (X:=AA r j) (Y:=AA r (i-1)) (by omega) (by omega));rw[t1]at k2;rw[t1]at n2;rw[s1,s2];exact jX n2 (by omega) k2 (Je (p:=((AA r j).2-(AA r i).2)) (q:=((AA r i).2-(AA r (i+1)).2)) (t:=((AA r (i-1)).2-(AA r i).2)) (b:=AE (AA r i) (AA r (i+1)) (AA r j)) (c:=-AE (AA r (i-1)) (AA r i) (AA r j)) (by omega) (by omega) (by omega) (ui JK) (.inr (.inr n2)))
  ·-- both above
   have n1:=PJ (.inl ⟨by omega,by omega⟩);have n2:=PK (.inl ⟨by omega,by omega⟩);have s1:AN r (yy r i) (i-1) = -1:=by unfold AN;rw[em,if_neg (by omega),if_pos ⟨by omega,by omega⟩]
   have s2:AN r (yy r i) i=1:=Fi (by lia) (by lia);have e1:=sV (.inl rfl);rw[eV,iV,s1,s2]at e1;have c1:=cV (H:=yy r i) (by lia);rw[Ay (by lia)]at c1;have k1:=F7 (Jy (A:=AA r i) (X:=AA r (i+1)) (Y:=AA r (i-1)) (by omega) (by omega));have k2:=F7 (Jy (A:=AA r i) (X:=AA r j) (Y:=AA r (i-1)) (by omega) (by omega));have k3:=F7 (Jy (A:=AA r i) (X:=AA r j) (Y:=AA r (i+1)) (by omega) (by omega));rw[t4]at k1;rw[t1]at k2;rw[t1]at n2;rw[s1,s2];have FV:=Pb (.inl ⟨bU,bV⟩);exact jY FV n1 n2 (by omega) k1 k2 k3 (Je (p:=((AA r j).2-(AA r i).2)) (q:=((AA r (i+1)).2-(AA r i).2)) (t:=((AA r (i-1)).2-(AA r i).2)) (b:=AE (AA r i) (AA r (i+1)) (AA r j)) (c:=AE (AA r (i-1)) (AA r i) (AA r j)) (by omega) (by omega) (by omega) (uj JK) (.inl FV))
theorem ZT(k:Int):Keeps (lean k) 1 where
 one:=.inl rfl
 sd:=λa b c=>by rw[OC,Int.one_mul]
 at_:=λa b p=>by
  unfold At lean;constructor
  ·rintro⟨q,s,h1,h2,h3,e1,e2⟩;exact⟨q,s,h1,h2,h3,by dsimp only at *;grind,by dsimp only at *;grind⟩
  ·rintro⟨q,s,h1,h2,h3,e1,e2⟩;exact⟨q,s,h1,h2,h3,by dsimp only at *;grind,by dsimp only at *;grind⟩
 inj:=λa b h=>by
  unfold lean at h;rw[Prod.mk.injEq]at h;obtain⟨h1,h2⟩:=h;rw[h1]at h2;exact Prod.ext h1 (by lia)
theorem cG{k:Int}{a b c d:Pt}(h:B0 (lean k a) (lean k b) (lean k c) (lean k d)):B0 a b c d:=by
 obtain⟨q,s,t,h1,h2,h3,h4,h5,e1,e2⟩:=h;unfold lean at e1 e2;dsimp only at e1 e2;exact⟨q,s,t,h1,h2,h3,h4,h5,e1,by grind⟩
theorem qe{a1 a2 b1 b2 c1 c2:Int}(ha:¬ (a1=0/\a2=0))(hb:¬ (b1=0/\b2=0))(hc:¬ (c1=0/\c2=0)):∃k:Int,0<k/\a2+k*a1≠0/\b2+k*b1≠0/\c2+k*c1≠0:=by
 by_cases h1:a2+1*a1≠0/\b2+1*b1≠0/\c2+1*c1≠0
 ·exact⟨1,by lia,h1⟩
 by_cases h2:a2+2*a1≠0/\b2+2*b1≠0/\c2+2*c1≠0
 ·exact⟨2,by lia,h2⟩
 by_cases h3:a2+3*a1≠0/\b2+3*b1≠0/\c2+3*c1≠0
 ·exact⟨3,by lia,h3⟩
 ·exact⟨4,by lia,by lia,by lia,by lia⟩
theorem RJ{k:Int}{U A V B:Pt}:DC (lean k U) (lean k A) (lean k V) (lean k B)↔DC U A V B:=by
 unfold DC;rw[OC,OC,OC]
theorem Probe.gi{r:List Pt}(R:Rm r){i j:Int}(p:Probe r i j) : (W (r.map dbl) ((AA r i).1+(AA r j).1,(AA r i).2+(AA r j).2)=1/\DC (AA r (i-1)) (AA r i) (AA r (i+1)) (AA r j))\/(W (r.map dbl) ((AA r i).1+(AA r j).1,(AA r i).2+(AA r j).2)=0/\¬ DC (AA r (i-1)) (AA r i) (AA r (i+1)) (AA r j)):=by
 have S:=R.simple;have h3:=S.l3;have NP:0<r.length:=by lia
 obtain⟨f0,f1,f2,f3⟩:=S3 (by lia) p.Ce;rw[show -(i-j)=j-i by lia]at f2 f3;have KI:AA r j≠AA r i:=S.distinct f2 f3;have hb:=R.DP i;have M7:AA r (i+1)≠AA r i:=λc=>hb (by rw[c];unfold AE;grind);have kR:=R.LC i;have j3:AA r (i-1)≠AA r i:=λc=>kR (by rw[c];unfold AE;grind);have UM:∀{X Y:Pt},X≠Y->¬ (X.1-Y.1=0/\X.2-Y.2=0):=λ{X Y} h c=>h (Prod.ext (by lia) (by lia));obtain⟨k,hk,k1,k2,k3⟩:=qe (UM j3) (UM M7) (UM KI);have R':Rm (r.map (lean k)):=R.map (ZT k);have S':=R'.simple;have hc:∀m,AA (r.map (lean k)) m=lean k (AA r m):=λm=>LU NP k m;have hy:∀m,yy (r.map (lean k)) m=(AA r m).2+k*(AA r m).1:=λm=>by unfold yy;rw[hc];rfl
 have p':Probe (r.map (lean k)) i j:=by
  refine UY S' R'.DP (by rw[List.length_map];exact p.Ce) λm a b c d h=>?_;rw[List.length_map]at a b c d;rw[hc,hc,hc,hc]at h;exact p.nt m a b c d (cG h)
 have hW:W (r.map dbl) ((AA r i).1+(AA r j).1,(AA r i).2+(AA r j).2)=W ((r.map (lean k)).map dbl) ((AA (r.map (lean k)) i).1+(AA (r.map (lean k)) j).1,(AA (r.map (lean k)) i).2+(AA (r.map (lean k)) j).2):=by
  have:=fL (r:=r.map dbl) (by simpa using NP) hk (p:=((AA r i).1+(AA r j).1,(AA r i).2+(AA r j).2)) (λm=>by
   rw[D6 NP,D6 NP];exact p.UK S m)
  rw[<-this,hc,hc]
  congr 1
  ·rw[List.map_map,List.map_map];apply List.map_congr_left;intro x _;unfold lean dbl;simp only[Function.comp];exact Prod.ext rfl (by dsimp only;grind)
  ·unfold lean;exact Prod.ext rfl (by dsimp only;grind)
 have em:∀a b c d:Int,b-d+k*(a-c)≠0->b+k*a≠d+k*c:=λa b c d h z=>h (by grind);obtain⟨H,hH,Y4⟩:=Probe.Oy S' (λh=>R'.Wh h) p' (by rw[hy,hy];exact em _ _ _ _ k1) (by rw[hy,hy];exact em _ _ _ _ k2) (by rw[hy,hy];exact em _ _ _ _ k3);have hm:=p'.mid S';rw[p'.along S' (h:=(yy (r.map (lean k)) i+yy (r.map (lean k)) j) / 2) (h':=H) (by lia) hH]at hm;rw[hW,hm];rw[hc,hc,hc,hc,RJ]at Y4;rw[hc,hc];exact Y4
def pr(a b p:Pt):Bool:=((decide (a.2>p.2)) != (decide (b.2>p.2)))&&(if decide (b.2>p.2)=true then decide (AE a b p>0)else decide (AE a b p<0))
theorem qq(a b p:Pt):(pr a b p=true/\(fw a b p=1\/fw a b p = -1))\/(pr a b p=false/\fw a b p=0):=by
 unfold pr fw;by_cases h1:a.2>p.2<;>by_cases h2:b.2>p.2<;>by_cases h3:AE a b p>0<;>by_cases h4:AE a b p<0<;>simp[h1,h2,h3,h4]<;>lia
theorem aF(r:List Pt)(p:Pt):∀n:Nat,(((List.range n).filter λk:Nat=>pr (AA r k) (AA r ((k:Int)+1)) p).length:Int)%2=AW (λj=>fw (AA r j) (AA r (j+1)) p) n%2
 |0=>rfl
 |n+1=>by
  have ih:=aF r p n;rw[List.range_succ,List.filter_append,List.length_append,AW];rcases qq (AA r (n:Int)) (AA r ((n:Int)+1)) p with⟨a,b⟩|⟨a,b⟩
  ·have:([n].filter λk:Nat=>pr (AA r k) (AA r ((k:Int)+1)) p).length=1:=by simp[a]
   rw[this];push_cast;lia
  ·have:([n].filter λk:Nat=>pr (AA r k) (AA r ((k:Int)+1)) p).length=0:=by simp[a]
   rw[this,b];push_cast;lia
theorem BD.oD{r:List Pt}(S:BD r){p:Pt}(hp:∀j:Int,¬ At (AA r j) (AA r (j+1)) p):(((List.range r.length).filter λk:Nat=>pr (AA r k) (AA r ((k:Int)+1)) p).length:Int)%2=1↔W r p≠0:=by
 rw[aF];have:=S.fK hp;unfold W at *
 lia
section
variable{r:List Pt}(S:BD r)
include S
theorem BD.cM(k:Int):AA r (k+1)≠AA r k:=λc=>by
 have:=(S.fork k 1 0 (by lia) (by lia) (by rw[c];lia) (by rw[c];lia)).1;lia
theorem BD.inj{m j:Int}(e:AA r m=AA r j):(m-j)%(r.length:Int)=0:=by
 rcases S.cases m j with a|a|a|a
 ·exact a
 ·exact absurd ((S.next a).1.symm.trans e) (S.cM j)
 ·exact absurd ((S.next a).1.symm.trans e.symm) (S.cM m)
 ·exact absurd e (S.distinct a.1 a.2.1)
end
def HP(r:List Pt)(A B:Pt)(k:Int):Bool:=(!(decide (A=AA r k)||decide (A=AA r (k+1))))&&(!(decide (B=AA r k)||decide (B=AA r (k+1))))
def IL(r:List Pt)(A B:Pt):Bool:=(List.range r.length).any λk=>HP r A B k&&BZ A B (AA r k) (AA r ((k:Int)+1))
def Kb(r:List Pt)(i j:Int):Bool:=(List.range r.length).any λk=>((!((k:Int)==i||(k:Int)==j))&&As (AA r i) (AA r j) (AA r k))||(((!((k:Int)==i||(k:Int)==j))&&(!(((k:Int)+1)%(r.length:Int)==i||((k:Int)+1)%(r.length:Int)==j)))&&CF (AA r i) (AA r j) (AA r k) (AA r (((k:Int)+1)%(r.length:Int))))
theorem Lw{n i k:Int}(hi:0<=i)(C4:i<n)(hk:0<=k)(CC:k<n):(i-k)%n=0↔k=i:=by
 constructor
 ·intro h;have e:(i-k)=n*((i-k) / n):=by have:=Int.mul_ediv_add_emod (i-k) n;lia
  have h1:(i-k) / n=0:=by
   have a:(i-k) / n<1:=by
    apply Int.ediv_lt_of_lt_mul (by lia);lia
   have b : -1<(i-k) / n:=by
    have:=Int.lt_ediv_add_one_mul_self (i-k) (b:=n) (by lia);by_cases c : -1<(i-k) / n
    ·exact c
    ·exfalso;have h2:((i-k) / n+1)<=0:=by lia
     have h3:((i-k) / n+1)*n<=0:=Int.mul_nonpos_of_nonpos_of_nonneg h2 (by lia);have h4:((i-k) / n)*n<=-1*n:=Int.mul_le_mul_of_nonneg_right (by lia) (by lia);have h5:n*((i-k) / n)=((i-k) / n)*n:=Int.mul_comm _ _;lia
   lia
  rw[h1]at e;lia
 ·rintro rfl;simp
theorem QC{n i k:Int}(hn:2<=n)(hi:0<=i)(C4:i<n):(i-k)%n=1↔(k+1)%n=i:=by
 constructor
 ·intro h;have:(i-(k+1))%n=0:=by
   rw[show i-(k+1)=(i-k)-1 by lia,Int.sub_emod,h,Int.emod_eq_of_lt (a:=1) (by lia) (by lia)];simp
  have e:(k+1)%n=i%n:=by
   have:=Int.emod_emod_of_dvd;rw[show k+1=i-(i-(k+1))by lia,Int.sub_emod,‹(i-(k+1))%n=0›];simp
  rw[e,Int.emod_eq_of_lt hi C4]
 ·intro h;have:(i-k)%n=((k+1)%n-k)%n:=by rw[h]
  rw[this,Int.sub_emod,Int.emod_emod_of_dvd _ (Int.dvd_refl n),<-Int.sub_emod,show k+1-k=1 by lia,Int.emod_eq_of_lt (by lia) (by lia)]
section
variable{r:List Pt}(S:BD r)
include S
theorem YB{i j k:Int}:HP r (AA r i) (AA r j) k=true↔((i-k)%(r.length:Int)≠0/\(i-k)%(r.length:Int)≠1)/\((j-k)%(r.length:Int)≠0/\(j-k)%(r.length:Int)≠1):=by
 have h3:=S.l3;have one:∀i:Int,(AA r i=AA r k\/AA r i=AA r (k+1))↔((i-k)%(r.length:Int)=0\/(i-k)%(r.length:Int)=1):=λi=>by
  constructor
  ·rintro(h|h)
   ·exact .inl (S.inj h)
   ·right;have:=S.inj h;rw[show i-k=(i-(k+1))+1 by lia,Int.add_emod,this,Int.emod_eq_of_lt (a:=1) (by lia) (by lia),Int.zero_add,Int.emod_eq_of_lt (by lia) (by lia)]
  ·rintro(h|h)
   ·exact .inl (An h)
   ·exact .inr (S.next h).1
 have oi:=one i;have oj:=one j;unfold HP;simp only[Bool.and_eq_true,Bool.not_eq_true',Bool.or_eq_false_iff,decide_eq_false_iff_not];constructor
 ·rintro⟨⟨a,b⟩,c,d⟩;exact⟨⟨λz=>(oi.mpr (.inl z)).elim a b,λz=>(oi.mpr (.inr z)).elim a b⟩,λz=>(oj.mpr (.inl z)).elim c d,λz=>(oj.mpr (.inr z)).elim c d⟩
 ·rintro⟨⟨a,b⟩,c,d⟩;exact⟨⟨λz=>(oi.mp (.inl z)).elim a b,λz=>(oi.mp (.inr z)).elim a b⟩,λz=>(oj.mp (.inl z)).elim c d,λz=>(oj.mp (.inr z)).elim c d⟩
theorem ay(DP:∀k:Int,AE (AA r k) (AA r (k+1)) (AA r (k+1+1))≠0){i j:Int}(hf:CN r.length (i-j)):IL r (AA r i) (AA r j)=false↔Probe r i j:=by
 have h3:=S.l3;have hn:(0:Int)<r.length:=by lia
 unfold IL;rw[List.any_eq_false];constructor
 ·intro h;refine UY S DP hf λk a b c d hs=>?_;have k0:=Int.emod_nonneg k (b:=(r.length:Int)) (by lia);have k1:=Int.emod_lt_of_pos k hn;have hc:((k%(r.length:Int)).toNat:Int)=k%(r.length:Int):=Int.toNat_of_nonneg k0;have hk:=h (k%(r.length:Int)).toNat (List.mem_range.mpr (by lia));rw[hc]at hk;apply hk;have e1:AA r (k%(r.length:Int))=AA r k:=Fy r k;have e2:AA r (k%(r.length:Int)+1)=AA r (k+1):=by
   rw[<-Fy r (k%(r.length:Int)+1),<-Fy r (k+1),Int.add_emod,Int.emod_emod_of_dvd _ (Int.dvd_refl _),<-Int.add_emod]
  rw[Bool.and_eq_true,e1,e2];refine⟨?_,UI hs⟩;have:=(YB S (i:=i) (j:=j) (k:=k)).mpr ⟨⟨a,b⟩,c,d⟩;unfold HP at this ⊢;rw[e1,e2];exact this
 ·intro p k hk;rw[Bool.and_eq_true];rintro⟨h1,h2⟩;obtain⟨⟨a,b⟩,c,d⟩:=(YB S).mp h1;exact p.nt k a b c d (VR h2)
theorem P6(DP:∀k:Int,AE (AA r k) (AA r (k+1)) (AA r (k+1+1))≠0){i j:Int}(hi:0<=i)(C4:i<r.length)(hj:0<=j)(Cz:j<r.length)(hf:CN r.length (i-j)):Kb r i j=false↔Probe r i j:=by
 have h3:=S.l3;have hn:(0:Int)<r.length:=by lia
 unfold Kb;rw[List.any_eq_false];constructor
 ·intro h;refine UY S DP hf λk a b c d hs=>?_;have k0:=Int.emod_nonneg k (b:=(r.length:Int)) (by lia);have k1:=Int.emod_lt_of_pos k hn;have hc:((k%(r.length:Int)).toNat:Int)=k%(r.length:Int):=Int.toNat_of_nonneg k0;have hk:=h (k%(r.length:Int)).toNat (List.mem_range.mpr (by lia));rw[hc]at hk;apply hk;have ec:∀x:Int,(x-k%(r.length:Int))%(r.length:Int)=(x-k)%(r.length:Int):=λx=>by rw[Int.sub_emod,Int.emod_emod_of_dvd _ (Int.dvd_refl _),<-Int.sub_emod]
  have e1:AA r (k%(r.length:Int))=AA r k:=Fy r k;have e2:AA r ((k%(r.length:Int)+1)%(r.length:Int))=AA r (k+1):=by
   rw[Fy,<-Fy r (k%(r.length:Int)+1),<-Fy r (k+1),Int.add_emod,Int.emod_emod_of_dvd _ (Int.dvd_refl _),<-Int.add_emod]
  rw[<-ec]at a b c d;have a':¬ k%(r.length:Int)=i:=λz=>a ((Lw hi C4 k0 k1).mpr z);have c':¬ k%(r.length:Int)=j:=λz=>c ((Lw hj Cz k0 k1).mpr z);have b':¬ (k%(r.length:Int)+1)%(r.length:Int)=i:=λz=>b ((QC (by lia) hi C4).mpr z);have d':¬ (k%(r.length:Int)+1)%(r.length:Int)=j:=λz=>d ((QC (by lia) hj Cz).mpr z);rw[Bool.or_eq_true];right;rw[e1,e2,P9,UI hs,beq_eq_false_iff_ne.mpr a',beq_eq_false_iff_ne.mpr b',beq_eq_false_iff_ne.mpr c',beq_eq_false_iff_ne.mpr d']
  rfl
 ·intro p k hk;have CC:=List.mem_range.mp hk;intro h;rw[Bool.or_eq_true]at h;rcases h with h|h
  ·simp only[Bool.and_eq_true,Bool.not_eq_true',Bool.or_eq_false_iff,beq_eq_false_iff_ne]at h;obtain⟨⟨a,b⟩,c⟩:=h;exact p.GL S (m:=(k:Int)) (λz=>a ((Lw hi C4 (by lia) (by lia)).mp z)) (λz=>b ((Lw hj Cz (by lia) (by lia)).mp z)) (QK.mp (GG.mp c))
  ·simp only[Bool.and_eq_true,Bool.not_eq_true',Bool.or_eq_false_iff,beq_eq_false_iff_ne]at h;obtain⟨⟨⟨a,b⟩,c,d⟩,e⟩:=h;rw[P9,Fy]at e;exact p.nt k (λz=>a ((Lw hi C4 (by lia) (by lia)).mp z)) (λz=>c ((QC (by lia) hi C4).mp z)) (λz=>b ((Lw hj Cz (by lia) (by lia)).mp z)) (λz=>d ((QC (by lia) hj Cz).mp z)) (VR e)
theorem BD.dbl:BD (r.map dbl):=by
 have h3:=S.l3;have hn:0<r.length:=by lia
 refine⟨by rw[List.length_map];exact h3,λk=>?_,λk=>?_,λi j h hs=>?_⟩
 ·rw[D6 hn,D6 hn,D6 hn];intro s t hs ht e1 e2;unfold AJ.dbl at e1 e2;exact S.fork k s t hs ht (by grind) (by grind)
 ·rw[D6 hn,D6 hn,D6 hn];have:=S.hh k;unfold AJ.dbl;dsimp only;lia
 ·rw[List.length_map]at h;rw[D6 hn,D6 hn,D6 hn,D6 hn]at hs;refine S.apart i j h ?_;obtain⟨q,s,t,a1,a2,a3,a4,a5,e1,e2⟩:=hs;unfold AJ.dbl at e1 e2;dsimp only at e1 e2;exact⟨q,s,t,a1,a2,a3,a4,a5,by grind,by grind⟩
end
def KS(w:List Pt)(p:Pt):Bool:=!((List.range w.length).any λk=>As (AA w k) (AA w ((k:Int)+1)) p)&&((((List.range w.length).filter λk:Nat=>pr (AA w k) (AA w ((k:Int)+1)) p).length:Int)%2==1)
def Mn(U A V B:Pt):Bool:=if AE U A V>0 then decide (AE A V B>0)&&decide (AE U A B>0)else decide (AE A V B>0)||decide (AE U A B>0)
theorem Si{U A V B:Pt}:Mn U A V B=true↔DC U A V B:=by
 unfold Mn DC;by_cases h:AE U A V>0
 ·simp[h]
 ·simp[h]
theorem nL{r:List Pt}(R:Rm r){i j:Int}(hi:0<=i)(C4:i<r.length)(hj:0<=j)(Cz:j<r.length)(hf:CN r.length (i-j)) : (!IL r (AA r i) (AA r j)&&KS (r.map dbl) ((AA r i).1+(AA r j).1,(AA r i).2+(AA r j).2))=(!Kb r i j&&Mn (AA r (i-1)) (AA r i) (AA r (i+1)) (AA r j)):=by
 have S:=R.simple;have h3:=S.l3;have hn:0<r.length:=by lia
 by_cases p:Probe r i j
 ·rw[(ay S R.DP hf).mpr p,(P6 S R.DP hi C4 hj Cz hf).mpr p,Bool.not_false,Bool.true_and,Bool.true_and];have D:=S.dbl;have off:∀k:Int,¬ At (AA (r.map dbl) k) (AA (r.map dbl) (k+1)) ((AA r i).1+(AA r j).1,(AA r i).2+(AA r j).2):=λk=>by
   rw[D6 hn,D6 hn];exact p.UK S k
  have ho:=D.oD off;have e:KS (r.map dbl) ((AA r i).1+(AA r j).1,(AA r i).2+(AA r j).2)=true↔W (r.map dbl) ((AA r i).1+(AA r j).1,(AA r i).2+(AA r j).2)≠0:=by
   unfold KS;rw[Bool.and_eq_true,beq_iff_eq,ho];constructor
   ·exact λh=>h.2
   ·refine λh=>⟨?_,h⟩;rw[Bool.not_eq_true',List.any_eq_false];intro k _ hk;exact off k (QK.mp (GG.mp hk))
  rw[Bool.eq_iff_iff,e,Si];rcases p.gi R with⟨a,b⟩|⟨a,b⟩
  ·rw[a];simp[b]
  ·rw[a];simp[b]
 ·have a:IL r (AA r i) (AA r j)=true:=by
   cases h:IL r (AA r i) (AA r j)
   ·exact absurd ((ay S R.DP hf).mp h) p
   ·rfl
  have b:Kb r i j=true:=by
   cases h:Kb r i j
   ·exact absurd ((P6 S R.DP hi C4 hj Cz hf).mp h) p
   ·rfl
  rw[a,b];rfl
def sub(r:List Pt)(s:Int)(l:Nat):List Pt:=(List.range (l+1)).map λk:Nat=>AA r (s+(k:Int))
theorem sub_len(r:List Pt)(s:Int)(l:Nat):(sub r s l).length=l+1:=by unfold sub;rw[List.length_map,List.length_range]
theorem ED(r:List Pt)(s:Int)(l:Nat):((sub r s l).length:Int)=l+1:=by rw[sub_len];lia
theorem A3(r:List Pt)(s:Int)(l:Nat){k:Int}(h0:0<=k)(h1:k<=l):AA (sub r s l) k=AA r (s+k):=by
 have hk:((k.toNat:Nat):Int)=k:=Int.toNat_of_nonneg h0;unfold AA;rw[ED,Int.emod_eq_of_lt h0 (by lia)];rw[List.getD_eq_getElem?_getD];unfold sub;rw[List.getElem?_map,List.getElem?_range (by lia)];simp only[Option.map_some,Option.getD_some];unfold AA;rw[hk]
theorem Eu(r:List Pt)(s:Int)(l:Nat):AA (sub r s l) (l+1)=AA r s:=by
 have:=An (r:=sub r s l) (i:=(l:Int)+1) (j:=0) (by rw[ED,Int.sub_zero,Int.emod_self]);rw[this,A3 r s l (by lia) (by lia),Int.add_zero]
theorem ME(r:List Pt)(s:Int)(l:Nat)(k:Int):∃m:Int,0<=m/\m<=l/\(k-m)%((sub r s l).length:Int)=0:=by
 refine⟨k%((l:Int)+1),Int.emod_nonneg _ (by lia),by have:=Int.emod_lt_of_pos k (show(0:Int)<(l:Int)+1 by lia);lia,?_⟩;rw[ED,Int.sub_emod,Int.emod_emod_of_dvd _ (Int.dvd_refl _),Int.sub_self]
 rfl
theorem J2{r:List Pt}(i:Int):AA r (i+r.length)=AA r i:=E2 r i
noncomputable def tm(H:Int)(A B a b:Pt):Int:=ind (Lt A B a b)*(if a.2<=H/\H<b.2 then 1 else if b.2<=H/\H<a.2 then -1 else 0)
theorem uY(H:Int)(A B a b:Pt):tm H A B b a = - tm H A B a b:=by
 unfold tm;have e:ind (Lt A B b a)=ind (Lt A B a b):=by
  by_cases c:Lt A B a b
  ·rw[Ay c,Ay (GB c)]
  ·rw[Aa c,Aa λz=>c (GB z)]
 rw[e,<-Int.mul_neg]
 congr 1
 (repeat' split)<;>lia
theorem RY(r:List Pt)(H:Int)(A B:Pt):RQ r H A B=AW (λk=>tm H A B (AA r k) (AA r (k+1))) r.length:=rfl
theorem RW(r:List Pt)(H:Int)(A B:Pt):RQ r H B A=RQ r H A B:=by
 unfold RQ;refine B5 λk _=>?_
 congr 1
 by_cases c:Lt A B (AA r (k:Int)) (AA r ((k:Int)+1))
 ·rw[Ay c,Ay (Fb c)]
 ·rw[Aa c,Aa λz=>c (Fb z)]
theorem cR(f:Int->Int)(m:Nat):∀k:Nat,AW f (m+k)=AW f m+AW (λj=>f (m+j)) k
 |0=>by simp[AW]
 |k+1=>by
  rw[show m+(k+1)=(m+k)+1 by lia];show AW f (m+k)+f ((m+k:Nat):Int)=AW f m+(AW (λj=>f (m+j)) k+f (m+(k:Int)));rw[cR f m k,Int.natCast_add];lia
theorem RX(r:List Pt)(s:Int)(l:Nat)(H:Int)(A B:Pt):RQ (sub r s l) H A B=AW (λk=>tm H A B (AA r (s+k)) (AA r (s+k+1))) l+tm H A B (AA r (s+l)) (AA r s):=by
 rw[RY,sub_len];show AW _ l+tm H A B (AA (sub r s l) l) (AA (sub r s l) ((l:Int)+1))=_;rw[Eu,A3 r s l (by lia) (by lia)]
 congr 1
 refine B5 λk hk=>?_;rw[A3 r s l (by lia) (by lia),A3 r s l (by lia) (by lia),Int.add_assoc]
theorem WK{r:List Pt}{s:Int}{l:Nat}(hl:l<=r.length)(h0:0<r.length)(H:Int)(A B:Pt):RQ r H A B=RQ (sub r s l) H A B+RQ (sub r (s+l) (r.length-l)) H A B:=by
 rw[RX,RX];have e1:s+(l:Int)+((r.length-l:Nat):Int)=s+r.length:=by lia
 rw[e1,J2,uY H A B (AA r (s+(l:Int))) (AA r s)];have e2:RQ r H A B=AW (λk=>tm H A B (AA r (s+k)) (AA r (s+k+1))) r.length:=by
  rw[RY];exact(Q2 (f:=λk=>tm H A B (AA r k) (AA r (k+1))) h0 (λa b h=>by
   show tm H A B (AA r a) (AA r (a+1))=tm H A B (AA r b) (AA r (b+1));rw[An h,An (Bx h)]) s).symm
 rw[e2];have e3:=cR (λk=>tm H A B (AA r (s+k)) (AA r (s+k+1))) l (r.length-l);rw[show l+(r.length-l)=r.length by lia]at e3;rw[e3];have e4:AW (λj=>tm H A B (AA r (s+((l:Int)+j))) (AA r (s+((l:Int)+j)+1))) (r.length-l)=AW (λk=>tm H A B (AA r (s+(l:Int)+k)) (AA r (s+(l:Int)+k+1))) (r.length-l):=by
  refine B5 λk _=>?_;rw[<-Int.add_assoc s]
 rw[e4];lia
def Line(r:List Pt)(i j:Int):Prop:=Probe r i j/\DC (AA r (i-1)) (AA r i) (AA r (i+1)) (AA r j)
structure Sm(r:List Pt):Prop where
 s:BD r
 c:∀{h j:Int},AN r h j≠0->cc r h j=1
 g:∀i j:Int,yy r i=yy r j->(i-j)%(r.length:Int)=0
theorem DZ{n d:Int}(h0:0<d)(h1:d<n):d%n≠0:=by rw[Int.emod_eq_of_lt (by lia) h1];lia
section
variable{r:List Pt}(S:Sm r)
include S
theorem Sm.gn{i j:Int}(h:(i-j)%(r.length:Int)≠0):yy r i≠yy r j:=λc=>h (S.g i j c)
theorem Sm.g1(i:Int):yy r (i+1)≠yy r i:=by
 have:=S.s.l3;exact S.gn (by rw[show i+1-i=1 by lia];exact DZ (by lia) (by lia))
theorem Sm.g0(i:Int):yy r (i-1)≠yy r i:=λc=>S.g1 (i-1) (by rw[show i-1+1=i by lia];exact c.symm)
theorem Sm.rq{i j:Int}(p:Probe r i j){H:Int}(h:(yy r i<=H/\H<yy r j)\/(yy r j<=H/\H<yy r i)) : (RQ r H (AA r i) (AA r j)=1/\DC (AA r (i-1)) (AA r i) (AA r (i+1)) (AA r j))\/(RQ r H (AA r i) (AA r j)=0/\¬ DC (AA r (i-1)) (AA r i) (AA r (i+1)) (AA r j)):=by
 obtain⟨H',h',z⟩:=Probe.Oy S.s (λh=>S.c h) p (S.g0 i) (S.g1 i) (λc=>p.Ce.1 (S.g i j c.symm));rw[p.along S.s h h'];exact z
theorem Sm.lvl{i j:Int}(h:yy r i≠yy r j):∃H,(yy r i<=H/\H<yy r j)\/(yy r j<=H/\H<yy r i):=by
 rcases Int.lt_or_gt_of_ne h with h|h
 ·exact⟨yy r i,.inl ⟨by lia,h⟩⟩
 ·exact⟨yy r j,.inr ⟨by lia,h⟩⟩
theorem Line.rq{i j:Int}(l:Line r i j){H:Int}(h:(yy r i<=H/\H<yy r j)\/(yy r j<=H/\H<yy r i)):RQ r H (AA r i) (AA r j)=1:=by
 rcases S.rq l.1 h with⟨a,_⟩|⟨_,b⟩
 ·exact a
 ·exact absurd l.2 b
theorem Line.symm{i j:Int}(l:Line r i j):Line r j i:=by
 have p':=l.1.symm S.s;refine⟨p',?_⟩;obtain⟨H,hH⟩:=S.lvl (i:=i) (j:=j) (S.gn l.1.Ce.1);have e:=Line.rq S l hH;rcases S.rq p' (H:=H) (by lia)with⟨_,b⟩|⟨a,_⟩
 ·exact b
 ·rw[RW,e]at a;cases a
end
theorem Probe.congr{r:List Pt}{i j i' j':Int}(hi:(i-i')%(r.length:Int)=0)(hj:(j-j')%(r.length:Int)=0)(p:Probe r i j):Probe r i' j':=by
 have ei:∀k:Int,(i'-k)%(r.length:Int)=(i-k)%(r.length:Int):=λk=>by
  rw[show i-k=(i-i')+(i'-k)by lia,Int.add_emod,hi,Int.zero_add,Int.emod_emod_of_dvd _ (Int.dvd_refl _)]
 have ej:∀k:Int,(j'-k)%(r.length:Int)=(j-k)%(r.length:Int):=λk=>by
  rw[show j-k=(j-j')+(j'-k)by lia,Int.add_emod,hj,Int.zero_add,Int.emod_emod_of_dvd _ (Int.dvd_refl _)]
 have ed:(i'-j')%(r.length:Int)=(i-j)%(r.length:Int):=by
  rw[ei,show i-j'=(i-j)+(j-j')by lia,Int.add_emod (i-j),hj,Int.add_zero,Int.emod_emod_of_dvd _ (Int.dvd_refl _)]
 have c1:=An hi;have c2:=An (Bx hi);have c3:AA r (i-1)=AA r (i'-1):=An (by rw[show i-1-(i'-1)=i-i' by lia];exact hi);have d1:=An hj;have d2:=An (Bx hj);have d3:AA r (j-1)=AA r (j'-1):=An (by rw[show j-1-(j'-1)=j-j' by lia];exact hj);refine⟨?_,c1 ▸ c2 ▸ d1 ▸ p.f1,c1 ▸ c3 ▸ d1 ▸ p.f2,d1 ▸ d2 ▸ c1 ▸ p.f3,d1 ▸ d3 ▸ c1 ▸ p.f4,λk a b c d=>?_⟩
 ·have:=p.Ce;unfold CN at this ⊢;rw[ed];exact this
 ·rw[ei]at a b;rw[ej]at c d;rw[<-c1,<-d1];exact p.nt k a b c d
theorem Line.congr{r:List Pt}{i j i' j':Int}(hi:(i-i')%(r.length:Int)=0)(hj:(j-j')%(r.length:Int)=0)(l:Line r i j):Line r i' j':=by
 have c1:=An hi;have c2:=An (Bx hi);have c3:AA r (i-1)=AA r (i'-1):=An (by rw[show i-1-(i'-1)=i-i' by lia];exact hi);have d1:=An hj;refine⟨l.1.congr hi hj,?_⟩;rw[<-c1,<-c2,<-c3,<-d1];exact l.2
theorem By{n d:Int}(h0:0<d)(h1:d<n):(-d)%n=n-d:=by
 rw[show -d=(n-d)+n*(-1)by lia,Int.add_mul_emod_self_left,Int.emod_eq_of_lt (by lia) (by lia)]
theorem Iw{n d:Int}(h:(2<=d/\d<=n-2)\/(2<=-d/\-d<=n-2)):CN n d:=by
 unfold CN;rcases h with h|h
 ·rw[Int.emod_eq_of_lt (by lia) (by lia)];lia
 ·have:=By (n:=n) (d:=-d) (by lia) (by lia);rw[Int.neg_neg]at this;rw[this];lia
theorem Mw{n d:Int}(hn:2<=n)(h:CN n d)(h1 : -n<d)(h2:d<n):(2<=d/\d<=n-2)\/(2<=-d/\-d<=n-2):=by
 unfold CN at h;by_cases c:0<=d
 ·rw[Int.emod_eq_of_lt c h2]at h;lia
 ·have:=By (n:=n) (d:=-d) (by lia) (by lia);rw[Int.neg_neg]at this;rw[this]at h;lia
theorem ng{n d:Int}(h:d%n=0)(h1 : -n<d)(h2:d<n):d=0:=by
 by_cases c:0<=d
 ·rw[Int.emod_eq_of_lt c h2]at h;exact h
 ·have:=By (n:=n) (d:=-d) (by lia) (by lia);rw[Int.neg_neg]at this;lia
theorem nj{n a b c:Int}(h1:(a-b)%n=0)(h2:(b-c)%n=0):(a-c)%n=0:=by
 rw[show a-c=(a-b)+(b-c)by lia,Int.add_emod,h1,h2];rfl
theorem YC{n a b c d:Int}(h1:(a-b)%n=0)(h2:(c-d)%n=0)(h:CN n (a-c)):CN n (b-d):=by
 have e:(b-d)%n=(a-c)%n:=by
  have h3:(a-c-(b-d))%n=0:=by
   rw[show a-c-(b-d)=(a-b)-(c-d)by lia,Int.sub_emod,h1,h2];rfl
  exact(Int.emod_eq_emod_iff_emod_sub_eq_zero.mpr h3).symm
 unfold CN at h ⊢;rw[e];exact h
section
variable{r:List Pt}(S:Sm r){s:Int}{l:Nat}(l2:2<=l)(ln:l+2<=r.length)
include S l2 ln
theorem cQ(i j:Int)(h:yy (sub r s l) i=yy (sub r s l) j):(i-j)%((sub r s l).length:Int)=0:=by
 obtain⟨a,a0,a1,ea⟩:=ME r s l i;obtain⟨b,b0,b1,eb⟩:=ME r s l j;rw[DN ea,DN eb]at h;unfold yy at h;rw[A3 r s l a0 a1,A3 r s l b0 b1]at h;have:=S.g (s+a) (s+b) h;rw[show s+a-(s+b)=a-b by lia]at this;have EZ:=ng this (by lia) (by lia);have:a=b:=by lia
 subst this;exact nj ea (Ci eb)
theorem VY(L:Probe r s (s+l)):BD (sub r s l):=by
 have hl:=ED r s l;have a2:∀a:Int,s+(a+1)=s+a+1:=λa=>by lia
 refine⟨by rw[sub_len];lia,λk=>?_,λk h=>?_,λi j hf hs=>?_⟩
 ·obtain⟨a,a0,a1,ea⟩:=ME r s l k;rw[An ea,An (Bx ea),An (Bx (Bx ea))];by_cases c1:a+2<=l
  ·rw[A3 r s l a0 a1,A3 r s l (k:=a+1) (by lia) (by lia),A3 r s l (k:=a+1+1) (by lia) (by lia),a2,a2,a2];exact S.s.fork (s+a)
  by_cases c2:a+1=l
  ·rw[A3 r s l a0 a1,c2,Eu,A3 r s l (by lia) (by lia)];have:=L.f4;rw[show s+(l:Int)-1=s+a by lia]at this;exact this
  ·have c3:a=l:=by lia
   subst c3;rw[Eu,A3 r s l a0 a1];have e:AA (sub r s l) ((l:Int)+1+1)=AA r (s+1):=by
    rw[An (i:=(l:Int)+1+1) (j:=1) (by rw[hl,show(l:Int)+1+1-1=(l:Int)+1 by lia,Int.emod_self]),A3 r s l (by lia) (by lia)]
   rw[e];exact L.f1.symm
 ·intro _;have:=cQ S l2 ln (s:=s) k (k+1) h;rw[hl,show k-(k+1) = -1 by lia,By (by lia) (by lia)]at this;lia
 ·obtain⟨a,a0,a1,ea⟩:=ME r s l i;obtain⟨b,b0,b1,eb⟩:=ME r s l j;have hf:=YC ea eb hf;rw[hl]at hf;have hd:=Mw (by lia) hf (by lia) (by lia);rw[An ea,An (Bx ea),An eb,An (Bx eb)]at hs;by_cases ca:a=l
  ·rw[ca,Eu,A3 r s l (by lia) (by lia),A3 r s l b0 b1,A3 r s l (k:=b+1) (by lia) (by lia),a2]at hs;refine L.nt (s+b) ?_ ?_ ?_ ?_ (OB hs)
   ·rw[show s-(s+b) = -b by lia,By (by lia) (by lia)];lia
   ·rw[show s-(s+b) = -b by lia,By (by lia) (by lia)];lia
   ·rw[show s+(l:Int)-(s+b)=l-b by lia,Int.emod_eq_of_lt (by lia) (by lia)];lia
   ·rw[show s+(l:Int)-(s+b)=l-b by lia,Int.emod_eq_of_lt (by lia) (by lia)];lia
  by_cases cb:b=l
  ·rw[cb,Eu,A3 r s l a0 a1,A3 r s l (k:=a+1) (by lia) (by lia),A3 r s l (k:=(l:Int)) (by lia) (by lia),a2]at hs;refine L.nt (s+a) ?_ ?_ ?_ ?_ (OB hs.symm)
   ·rw[show s-(s+a) = -a by lia,By (by lia) (by lia)];lia
   ·rw[show s-(s+a) = -a by lia,By (by lia) (by lia)];lia
   ·rw[show s+(l:Int)-(s+a)=l-a by lia,Int.emod_eq_of_lt (by lia) (by lia)];lia
   ·rw[show s+(l:Int)-(s+a)=l-a by lia,Int.emod_eq_of_lt (by lia) (by lia)];lia
  ·rw[A3 r s l a0 a1,A3 r s l (k:=a+1) (by lia) (by lia),A3 r s l b0 b1,A3 r s l (k:=b+1) (by lia) (by lia),a2,a2]at hs;exact S.s.apart (s+a) (s+b) (Iw (by lia)) hs
theorem QN(L:Line r s (s+l)):Line r (s+l) (s+l+(r.length-l:Nat)):=by
 refine(Line.symm S L).congr (by rw[Int.sub_self];rfl) ?_;rw[show s-(s+(l:Int)+((r.length-l:Nat):Int))=r.length*(-1)by lia,Int.mul_emod_right]
theorem cP(L:Line r s (s+l)):(∀{h j:Int},AN (sub r s l) h j≠0->cc (sub r s l) h j=1)/\(∀{h j:Int},AN (sub r (s+l) (r.length-l)) h j≠0->cc (sub r (s+l) (r.length-l)) h j=1):=by
 have L':=QN S l2 ln L;have S1:=VY S l2 ln L.1;have S2:=VY S (s:=s+l) (l:=r.length-l) (by lia) (by lia) L'.1;have en:s+(l:Int)+((r.length-l:Nat):Int)=s+r.length:=by lia
 obtain⟨H,hH⟩:=S.lvl (i:=s) (j:=s+l) (S.gn L.1.Ce.1);have y1:yy (sub r s l) l=yy r (s+l):=by unfold yy;rw[A3 r s l (by lia) (by lia)]
 have y2:yy (sub r s l) ((l:Int)+1)=yy r s:=by unfold yy;rw[Eu]
 have y3:yy (sub r (s+l) (r.length-l)) (r.length-l:Nat)=yy r s:=by unfold yy;rw[A3 r (s+l) (r.length-l) (by lia) (by lia),en,J2]
 have y4:yy (sub r (s+l) (r.length-l)) ((r.length-l:Nat)+1)=yy r (s+l):=by unfold yy;rw[Eu]
 have g1:AN (sub r s l) H l≠0:=JZ (by rw[y1,y2];lia);have g2:AN (sub r (s+l) (r.length-l)) H (r.length-l:Nat)≠0:=JZ (by rw[y3,y4];lia);have c1:=S1.Ml g1;have c2:=S2.Ml g2;have r1:Rr (sub r s l) H l=RQ (sub r s l) H (AA r s) (AA r (s+l)):=by
  rw[<-RW];show RQ (sub r s l) H (AA (sub r s l) l) (AA (sub r s l) ((l:Int)+1))=_;rw[Eu,A3 r s l (by lia) (by lia)]
 have r2:Rr (sub r (s+l) (r.length-l)) H (r.length-l:Nat)=RQ (sub r (s+l) (r.length-l)) H (AA r s) (AA r (s+l)):=by
  show RQ (sub r (s+l) (r.length-l)) H (AA (sub r (s+l) (r.length-l)) (r.length-l:Nat)) (AA (sub r (s+l) (r.length-l)) ((r.length-l:Nat)+1))=_;rw[Eu,A3 r (s+l) (r.length-l) (by lia) (by lia),en,J2]
 have e:=WK (r:=r) (s:=s) (l:=l) (by lia) (by lia) H (AA r s) (AA r (s+l));rw[Line.rq S L hH]at e;have d1:cc (sub r s l) H l=RQ (sub r s l) H (AA r s) (AA r (s+l))+ind (yy r (s+l)<yy r s):=by unfold cc;rw[r1,y1,y2]
 have d2:cc (sub r (s+l) (r.length-l)) H (r.length-l:Nat)=RQ (sub r (s+l) (r.length-l)) H (AA r s) (AA r (s+l))+ind (yy r s<yy r (s+l)):=by unfold cc;rw[r2,y3,y4]
 have d3:ind (yy r (s+l)<yy r s)+ind (yy r s<yy r (s+l))=1:=by
  by_cases x:yy r s<yy r (s+l)
  ·rw[Ay x,Aa (by lia)];rfl
  ·rw[Aa x,Ay (by lia)];rfl
 have k1:cc (sub r s l) H l=1:=by lia
 have k2:cc (sub r (s+l) (r.length-l)) H (r.length-l:Nat)=1:=by lia
 exact⟨λ{h j} hj=>by rw[S1.Mm hj g1];exact k1,λ{h j} hj=>by rw[S2.Mm hj g2];exact k2⟩
theorem Jc(L:Line r s (s+l)):Sm (sub r s l):=⟨VY S l2 ln L.1,(cP S l2 ln L).1,cQ S l2 ln⟩
end
theorem qf{Q Y a b c d:Int}(hQ:0<Q)(EZ:(Q*a<Y/\Y<Q*b)\/(Q*b<Y/\Y<Q*a))(C3:c≠d)(hr:(Q*c<=Y/\Y<=Q*d)\/(Q*d<=Y/\Y<=Q*c)) : ∃H,((a<=H/\H<b)\/(b<=H/\H<a))/\((c<=H/\H<d)\/(d<=H/\H<c))/\Q*H<=Y/\Y<=Q*(H+1):=by
 have f1:Q*(Y / Q)<=Y:=Int.mul_ediv_self_le (by lia);have f2:Y<Q*(Y / Q+1):=by have:=Int.lt_mul_ediv_self_add (x:=Y) hQ;rw[Int.mul_add];lia
 generalize Y / Q=f at f1 f2;have He:∀{u v:Int},Q*u<Q*v->u<v:=λh=>Int.lt_of_mul_lt_mul_left h (by lia);have P7:∀{u v:Int},Q*u<=Q*v->u<=v:=λh=>Int.le_of_mul_le_mul_left h hQ;by_cases hc:(c<=f/\f<d)\/(d<=f/\f<c)
 ·refine⟨f,?_,hc,f1,by lia⟩;rcases EZ with⟨u,v⟩|⟨u,v⟩
  ·have:=He (Int.lt_trans u f2);have:=He (Int.lt_of_le_of_lt f1 v);lia
  ·have:=He (Int.lt_trans u f2);have:=He (Int.lt_of_le_of_lt f1 v);lia
 ·have hY:Y=Q*f/\((c<d/\d=f)\/(d<c/\c=f)):=by
   rcases hr with⟨u,v⟩|⟨u,v⟩
   ·have h1:=He (Int.lt_of_le_of_lt u f2);have h2:=P7 (Int.le_trans u v);have h3:=P7 (Int.le_trans f1 v);have:d=f:=by lia
    subst this;exact⟨by lia,by lia⟩
   ·have h1:=He (Int.lt_of_le_of_lt u f2);have h2:=P7 (Int.le_trans u v);have h3:=P7 (Int.le_trans f1 v);have:c=f:=by lia
    subst this;exact⟨by lia,by lia⟩
  obtain⟨e,g⟩:=hY;subst e;refine⟨f-1,?_,by lia,by rw[Int.mul_sub];lia,by rw[show f-1+1=f by lia];lia⟩;rcases EZ with⟨u,v⟩|⟨u,v⟩
  ·have:=He u;have:=He v;lia
  ·have:=He u;have:=He v;lia
def K4(Q X Y:Int)(A B:Pt):Prop:=∃s:Int,0<=s/\s<=Q/\Q*A.1+s*(B.1-A.1)=X/\Q*A.2+s*(B.2-A.2)=Y
theorem Wm{Q X Y H:Int}(hQ:0<Q){E F:Pt}(hs:E.2<=H/\H<F.2)(h1:Q*H<=Y)(h2:Y<=Q*(H+1)) : (∀A B,K4 Q X Y A B->Lt A B E F)\/(∀A B,K4 Q X Y A B->Lt E F A B)\/∃d k:Int,0<d/\0<=k/\k<=Q*d/\Q*d*E.1+k*(F.1-E.1)=d*X/\Q*d*E.2+k*(F.2-E.2)=d*Y:=by
 have a1:=Int.mul_le_mul_of_nonneg_left hs.1 (Int.le_of_lt hQ);have a2:=Int.mul_le_mul_of_nonneg_left (show H+1<=F.2 by lia) (Int.le_of_lt hQ);have hd:0<F.2-E.2:=by lia
 have PY:=Int.mul_pos hQ hd;have k1:Y-Q*E.2<=Q*(F.2-E.2):=by rw[Int.mul_sub];lia
 rcases Int.lt_trichotomy (Q*(F.2-E.2)*E.1+(Y-Q*E.2)*(F.1-E.1)) ((F.2-E.2)*X)with c|c|c
 ·refine .inr (.inl λA B h=>?_);obtain⟨s,s0,s1,e1,e2⟩:=h;have m1:=Int.mul_nonneg s0 (Int.le_of_lt hd);have m2:=Int.mul_le_mul_of_nonneg_right s1 (Int.le_of_lt hd);refine⟨Q*(F.2-E.2),Y-Q*E.2,s*(F.2-E.2),PY,by lia,k1,m1,m2,?_,?_⟩
  ·rw[<-e2];grind
  ·have:Q*(F.2-E.2)*A.1+s*(F.2-E.2)*(B.1-A.1)=(F.2-E.2)*X:=by rw[<-e1];grind
   rw[this];exact c
 ·exact .inr (.inr ⟨F.2-E.2,Y-Q*E.2,hd,by lia,k1,c,by grind⟩)
 ·refine .inl λA B h=>?_;obtain⟨s,s0,s1,e1,e2⟩:=h;have m1:=Int.mul_nonneg s0 (Int.le_of_lt hd);have m2:=Int.mul_le_mul_of_nonneg_right s1 (Int.le_of_lt hd);refine⟨Q*(F.2-E.2),s*(F.2-E.2),Y-Q*E.2,PY,m1,m2,by lia,k1,?_,?_⟩
  ·rw[<-e2];grind
  ·have:Q*(F.2-E.2)*A.1+s*(F.2-E.2)*(B.1-A.1)=(F.2-E.2)*X:=by rw[<-e1];grind
   rw[this];exact c
theorem gY{Q X Y H:Int}(hQ:0<Q){E F:Pt}(hs:(E.2<=H/\H<F.2)\/(F.2<=H/\H<E.2))(h1:Q*H<=Y)(h2:Y<=Q*(H+1)) : (∀A B,K4 Q X Y A B->Lt A B E F)\/(∀A B,K4 Q X Y A B->Lt E F A B)\/∃d k:Int,0<d/\0<=k/\k<=Q*d/\Q*d*E.1+k*(F.1-E.1)=d*X/\Q*d*E.2+k*(F.2-E.2)=d*Y:=by
 rcases hs with hs|hs
 ·exact Wm hQ hs h1 h2
 ·rcases Wm (X:=X) hQ hs h1 h2 with h|h|⟨d,k,a,b,c,e1,e2⟩
  ·exact .inl λA B z=>GB (h A B z)
  ·exact .inr (.inl λA B z=>Fb (h A B z))
  ·exact .inr (.inr ⟨d,Q*d-k,a,by lia,by lia,by grind,by grind⟩)
section
variable{r:List Pt}(S:Sm r){s:Int}{l:Nat}(l2:2<=l)(ln:l+2<=r.length)(L:Line r s (s+l))
include S l2 ln L
theorem qD{k:Int}(k0:0<=k)(k1:k<r.length-l){H:Int}(hH:(yy r (s+l+k)<=H/\H<yy r (s+l+k+1))\/(yy r (s+l+k+1)<=H/\H<yy r (s+l+k))) : RQ (sub r s l) H (AA r (s+l+k)) (AA r (s+l+k+1))=0:=by
 have e:=WK (r:=r) (s:=s) (l:=l) (by lia) (by lia) H (AA r (s+l+k)) (AA r (s+l+k+1));have x1:RQ r H (AA r (s+l+k)) (AA r (s+l+k+1))+ind (yy r (s+l+k)<yy r (s+l+k+1))=1:=S.c (h:=H) (j:=s+l+k) (JZ hH);have e1:AA (sub r (s+l) (r.length-l)) k=AA r (s+l+k):=A3 r (s+l) (r.length-l) k0 (by lia);have e2:AA (sub r (s+l) (r.length-l)) (k+1)=AA r (s+l+k+1):=by rw[A3 r (s+l) (r.length-l) (by lia) (by lia)];congr 1;lia
 have x2:RQ (sub r (s+l) (r.length-l)) H (AA r (s+l+k)) (AA r (s+l+k+1))+ind (yy r (s+l+k)<yy r (s+l+k+1))=1:=by
  have:=(cP S l2 ln L).2 (h:=H) (j:=k) (JZ (by unfold yy;rw[e1,e2];exact hH));unfold cc at this;unfold yy at this ⊢;rw[e1,e2]at this;have er:Rr (sub r (s+l) (r.length-l)) H k=RQ (sub r (s+l) (r.length-l)) H (AA r (s+l+k)) (AA r (s+l+k+1)):=by
   show RQ _ _ _ _=_;rw[e1,e2]
  rw[er]at this;exact this
 lia
theorem Z9{a b:Int}(p:Line (sub r s l) a b){k:Int}(k0:0<=k)(k1:k<r.length-l){Q t X Y:Int}(hQ:0<Q)(t0:0<t)(t1:t<Q) (e1:Q*(AA (sub r s l) a).1+t*((AA (sub r s l) b).1-(AA (sub r s l) a).1)=X) (e2:Q*(AA (sub r s l) a).2+t*((AA (sub r s l) b).2-(AA (sub r s l) a).2)=Y) (hC:K4 Q X Y (AA r (s+l+k)) (AA r (s+l+k+1))):False:=by
 have Sq:=Jc S l2 ln L;have EZ:yy (sub r s l) a≠yy (sub r s l) b:=Sq.gn p.1.Ce.1;have C3:yy r (s+l+k)≠yy r (s+l+k+1):=(S.g1 _).symm;have hA:K4 Q X Y (AA (sub r s l) a) (AA (sub r s l) b):=⟨t,by lia,by lia,e1,e2⟩;have ra:(Q*yy (sub r s l) a<Y/\Y<Q*yy (sub r s l) b)\/(Q*yy (sub r s l) b<Y/\Y<Q*yy (sub r s l) a):=by
  unfold yy at EZ ⊢;rw[<-e2];rcases Int.lt_or_gt_of_ne EZ with h|h
  ·left;have m1:=Int.mul_pos t0 (Int.sub_pos.mpr h);have m2:=Int.mul_pos (Int.sub_pos.mpr t1) (Int.sub_pos.mpr h);exact⟨by lia,by rw[Int.sub_mul]at m2;rw[Int.mul_sub Q]at m2;lia⟩
  ·right;have m1:=Int.mul_pos t0 (Int.sub_pos.mpr h);have m2:=Int.mul_pos (Int.sub_pos.mpr t1) (Int.sub_pos.mpr h);rw[Int.mul_sub]at m1;rw[Int.sub_mul,Int.mul_sub,Int.mul_sub]at m2;exact⟨by rw[Int.mul_sub];lia,by rw[Int.mul_sub];lia⟩
 have rc:(Q*yy r (s+l+k)<=Y/\Y<=Q*yy r (s+l+k+1))\/(Q*yy r (s+l+k+1)<=Y/\Y<=Q*yy r (s+l+k)):=by
  obtain⟨u,u0,u1,_,f2⟩:=hC;unfold yy;rw[<-f2];rcases Int.le_total (AA r (s+l+k)).2 (AA r (s+l+k+1)).2 with h|h
  ·left;have m1:=Int.mul_nonneg u0 (Int.sub_nonneg.mpr h);have m2:=Int.mul_nonneg (Int.sub_nonneg.mpr u1) (Int.sub_nonneg.mpr h);exact⟨by lia,by rw[Int.sub_mul]at m2;rw[Int.mul_sub Q]at m2;lia⟩
  ·right;have m1:=Int.mul_nonneg u0 (Int.sub_nonneg.mpr h);have m2:=Int.mul_nonneg (Int.sub_nonneg.mpr u1) (Int.sub_nonneg.mpr h);rw[Int.mul_sub]at m1;rw[Int.sub_mul,Int.mul_sub,Int.mul_sub]at m2;exact⟨by rw[Int.mul_sub];lia,by rw[Int.mul_sub];lia⟩
 obtain⟨H,ha,hc,h1,h2⟩:=qf hQ ra C3 rc;have z0:=qD S l2 ln L k0 k1 hc;have z1:=Line.rq Sq p ha;have:RQ (sub r s l) H (AA (sub r s l) a) (AA (sub r s l) b)=RQ (sub r s l) H (AA r (s+l+k)) (AA r (s+l+k+1)):=by
  unfold RQ;refine B5 λm hm=>?_;by_cases hs:AN (sub r s l) H m=0
  ·rw[hs,Int.mul_zero,Int.mul_zero]
  congr 1
  rw[sub_len]at hm;rcases gY (X:=X) hQ (E:=AA (sub r s l) m) (F:=AA (sub r s l) ((m:Int)+1)) (Dc hs) h1 h2 with c|c|⟨d,u,d0,u0,u1,f1,f2⟩
  ·rw[Ay (c _ _ hA),Ay (c _ _ hC)]
  ·rw[Aa λz=>p.1.nc Sq.s m z (c _ _ hA),Aa λz=>?_];have c':=c _ _ hC;by_cases hl:(m:Int)=l
   ·rw[hl,Eu,A3 r s l (by lia) (by lia)]at c' z;exact L.1.nc S.s (s+l+k) (Fb c') (GB z)
   ·rw[A3 r s l (k:=(m:Int)) (by lia) (by lia),A3 r s l (k:=(m:Int)+1) (by lia) (by lia),show s+((m:Int)+1)=s+m+1 by lia]at c' z;exact S.s.nc (i:=s+l+k) (j:=s+m) (by rw[show s+(l:Int)+k-(s+m)=l+k-m by lia];exact DZ (by lia) (by lia)) z c'
  ·exfalso;have td:=Int.mul_pos d0 t0;have yW:=Int.mul_pos d0 (Int.sub_pos.mpr t1);by_cases x1:(a-(m:Int))%((sub r s l).length:Int)=0
   ·rw[<-An x1,<-An (Bx x1)]at f1 f2;have:=(p.1.f1 u (d*t) u0 (by lia) (by rw[<-e1]at f1;grind) (by rw[<-e2]at f2;grind)).2;lia
   by_cases x2:(a-(m:Int))%((sub r s l).length:Int)=1
   ·have hn:(1:Int)<((sub r s l).length:Int):=by rw[ED];lia
    have y:=EK hn x2;rw[show a-1-(m:Int)=a-1-m by lia]at y;rw[<-An y,<-(Sq.s.next x2).1]at f1 f2;have:=(p.1.f2 (Q*d-u) (d*t) (by lia) (by lia) (by rw[<-e1]at f1;grind) (by rw[<-e2]at f2;grind)).2;lia
   by_cases x3:(b-(m:Int))%((sub r s l).length:Int)=0
   ·rw[<-An x3,<-An (Bx x3)]at f1 f2;have:=(p.1.f3 u (d*(Q-t)) u0 (by lia) (by rw[<-e1]at f1;grind) (by rw[<-e2]at f2;grind)).2;lia
   by_cases x4:(b-(m:Int))%((sub r s l).length:Int)=1
   ·have hn:(1:Int)<((sub r s l).length:Int):=by rw[ED];lia
    have y:=EK hn x4;rw[<-An y,<-(Sq.s.next x4).1]at f1 f2;have:=(p.1.f4 (Q*d-u) (d*(Q-t)) (by lia) (by lia) (by rw[<-e1]at f1;grind) (by rw[<-e2]at f2;grind)).2;lia
   ·have PY:=Int.mul_pos hQ d0;have m2:=Int.mul_le_mul_of_nonneg_left (Int.le_of_lt t1) (Int.le_of_lt d0);refine p.1.nt m x1 x2 x3 x4 ⟨Q*d,d*t,u,PY,by lia,by rw[Int.mul_comm Q];lia,u0,u1,?_,?_⟩
    ·rw[f1,<-e1];grind
    ·rw[f2,<-e2];grind
 rw[z0,z1]at this;cases this
end
theorem BD.GD{r:List Pt}(S:BD r){m j:Int}(h0:(m-j)%(r.length:Int)≠0)(h1:(m-j)%(r.length:Int)≠1):¬ At (AA r j) (AA r (j+1)) (AA r m):=by
 rintro⟨q,s,hq,s0,s1,e1,e2⟩;exact S.off h0 h1 hq s0 s1 (by grind) (by grind)
theorem Sm.ne{r:List Pt}(S:Sm r){i j:Int}(h:(i-j)%(r.length:Int)≠0):AA r i≠AA r j:=λc=>S.gn h (by unfold yy;rw[c])
theorem Sm.st{r:List Pt}(S:Sm r)(k:Int):AA r (k+1)≠AA r k:=λc=>S.g1 k (by unfold yy;rw[c])
section
variable{r:List Pt}(S:Sm r){s:Int}{l:Nat}(l2:2<=l)(ln:l+2<=r.length)(L:Line r s (s+l))
include S l2 ln L
theorem dM{a b:Int}(a0:0<=a)(a1:a<=l)(b0:0<=b)(b1:b<=l)(p:Line (sub r s l) a b){k:Int}(k0:0<=k)(k1:k<r.length-l){T:Pt} (hT:(AA r (s+l+k)=AA r (s+a)/\T=AA r (s+l+k+1))\/(AA r (s+l+k+1)=AA r (s+a)/\T=AA r (s+l+k))) (kK:T≠AA r (s+a)) (kL:T≠AA r (s+b)) (KI:AA r (s+b)≠AA r (s+a)) (hB:¬ At (AA r (s+l+k)) (AA r (s+l+k+1)) (AA r (s+b))):CV (AA r (s+a)) T (AA r (s+b)):=by
 have ea:AA (sub r s l) a=AA r (s+a):=A3 r s l a0 a1;have eb:AA (sub r s l) b=AA r (s+b):=A3 r s l b0 b1;intro u v hu hv e1 e2;by_cases u0:u=0
 ·refine⟨u0,?_⟩;by_cases v0:v=0
  ·exact v0
  ·exfalso;apply KI;rw[u0,Int.zero_mul]at e1 e2;have g1:=Int.mul_eq_zero.mp e1.symm;have g2:=Int.mul_eq_zero.mp e2.symm;exact Prod.ext (by lia) (by lia)
 by_cases v0:v=0
 ·exfalso;apply kK;rw[v0,Int.zero_mul]at e1 e2;have g1:=Int.mul_eq_zero.mp e1;have g2:=Int.mul_eq_zero.mp e2;exact Prod.ext (by lia) (by lia)
 exfalso;rcases Int.lt_trichotomy v u with h|h|h
 ·refine Z9 S l2 ln L p k0 k1 (Q:=u) (t:=v) (X:=u*T.1) (Y:=u*T.2) (by lia) (by lia) h ?_ ?_ ?_
  ·rw[ea,eb];grind
  ·rw[ea,eb];grind
  ·rcases hT with⟨_,rfl⟩|⟨_,rfl⟩
   ·exact⟨u,by lia,by lia,by grind,by grind⟩
   ·exact⟨0,by lia,by lia,by grind,by grind⟩
 ·apply kL;subst h;have g1:=Int.eq_of_mul_eq_mul_left v0 e1;have g2:=Int.eq_of_mul_eq_mul_left v0 e2;exact Prod.ext (by lia) (by lia)
 ·apply hB;rcases hT with⟨h1,rfl⟩|⟨h1,rfl⟩
  ·rw[h1];exact⟨v,u,by lia,by lia,by lia,e1.symm,e2.symm⟩
  ·rw[h1];exact Ju ⟨v,u,by lia,by lia,by lia,e1.symm,e2.symm⟩
theorem RD{a b:Int}(a0:0<=a)(a1:a<=l)(b0:0<=b)(b1:b<=l)(p:Line (sub r s l) a b):(2<=a-b/\a-b<=l-1)\/(2<=b-a/\b-a<=l-1):=by
 have:=p.1.Ce;rw[ED]at this;have:=Mw (by lia) this (by lia) (by lia);lia
theorem dI{a b:Int}(a0:0<=a)(a1:a<=l)(b0:0<=b)(b1:b<=l)(p:Line (sub r s l) a b):CV (AA r (s+a)) (AA r (s+a+1)) (AA r (s+b)):=by
 have hf:=RD S l2 ln L a0 a1 b0 b1 p;by_cases ha:a<l
 ·have:=p.1.f1;rw[A3 r s l a0 a1,A3 r s l b0 b1,A3 r s l (k:=a+1) (by lia) (by lia),show s+(a+1)=s+a+1 by lia]at this;exact this
 ·have ha:a=l:=by lia
  subst ha;have e0:s+(l:Int)+0=s+l:=Int.add_zero _;refine dM S l2 ln L a0 a1 b0 b1 p (k:=0) (by lia) (by lia) (.inl ⟨by rw[e0],by rw[e0]⟩) (S.st _) (S.ne ?_) (S.ne ?_) ?_
  ·rw[show s+(l:Int)+1-(s+b)=l+1-b by lia];exact DZ (by lia) (by lia)
  ·rw[show s+b-(s+(l:Int)) = -(l-b)by lia,By (by lia) (by lia)];lia
  ·rw[e0];refine S.s.GD ?_ ?_
   ·rw[show s+b-(s+(l:Int)) = -(l-b)by lia,By (by lia) (by lia)];lia
   ·rw[show s+b-(s+(l:Int)) = -(l-b)by lia,By (by lia) (by lia)];lia
theorem dJ{a b:Int}(a0:0<=a)(a1:a<=l)(b0:0<=b)(b1:b<=l)(p:Line (sub r s l) a b):CV (AA r (s+a)) (AA r (s+a-1)) (AA r (s+b)):=by
 have hf:=RD S l2 ln L a0 a1 b0 b1 p;by_cases ha:0<a
 ·have:=p.1.f2;rw[A3 r s l a0 a1,A3 r s l b0 b1,A3 r s l (k:=a-1) (by lia) (by lia),show s+(a-1)=s+a-1 by lia]at this;exact this
 ·have ha:a=0:=by lia
  subst ha;have e0:s+(l:Int)+(r.length-l-1)=s-1+r.length:=by lia
  have e1:AA r (s+(l:Int)+(r.length-l-1))=AA r (s-1):=by rw[e0,J2]
  have e2:AA r (s+(l:Int)+(r.length-l-1)+1)=AA r (s-1+1):=by rw[e0,show s-1+(r.length:Int)+1=s-1+1+r.length by lia,J2]
  have e3:s-1+1=s+0:=by lia
  have st:AA r (s+0-1)≠AA r (s+0):=λc=>S.st (s-1) (by rw[e3,<-c];congr 1;lia);refine dM S l2 ln L a0 a1 b0 b1 p (k:=r.length-l-1) (by lia) (by lia) (.inr ⟨by rw[e2,e3],by rw[e1];congr 1;lia⟩) st (S.ne ?_) (S.ne ?_) ?_
  ·rw[show s+0-1-(s+b) = -(b+1)by lia,By (by lia) (by lia)];lia
  ·rw[show s+b-(s+0)=b by lia,Int.emod_eq_of_lt (by lia) (by lia)];lia
  ·rw[e1,e2];refine S.s.GD ?_ ?_
   ·rw[show s+b-(s-1)=b+1 by lia,Int.emod_eq_of_lt (by lia) (by lia)];lia
   ·rw[show s+b-(s-1)=b+1 by lia,Int.emod_eq_of_lt (by lia) (by lia)];lia
theorem u9{a b:Int}(a0:0<=a)(a1:a<=l)(b0:0<=b)(b1:b<=l)(p:Line (sub r s l) a b):Probe r (s+a) (s+b):=by
 have hf:=RD S l2 ln L a0 a1 b0 b1 p;have Sq:=Jc S l2 ln L;have p':=Line.symm Sq p;refine⟨Iw (by lia),dI S l2 ln L a0 a1 b0 b1 p,dJ S l2 ln L a0 a1 b0 b1 p,dI S l2 ln L b0 b1 a0 a1 p',dJ S l2 ln L b0 b1 a0 a1 p',λk x1 x2 x3 x4 h=>?_⟩;have hn:(0:Int)<r.length:=by lia
 have m0:=Int.emod_nonneg (k-s) (b:=(r.length:Int)) (by lia);have m1:=Int.emod_lt_of_pos (k-s) hn;have em:(k-(s+(k-s)%(r.length:Int)))%(r.length:Int)=0:=by
  rw[show k-(s+(k-s)%(r.length:Int))=(k-s)-(k-s)%(r.length:Int)by lia,Int.sub_emod,Int.emod_emod_of_dvd _ (Int.dvd_refl _),Int.sub_self];rfl
 generalize (k-s)%(r.length:Int)=m at m0 m1 em;have ek:∀x:Int,(x-k)%(r.length:Int)=(x-(s+m))%(r.length:Int):=λx=>by
  rw[show x-(s+m)=(x-k)+(k-(s+m))by lia,Int.add_emod,em,Int.add_zero,Int.emod_emod_of_dvd _ (Int.dvd_refl _)]
 rw[ek]at x1 x2 x3 x4;rw[An em,An (Bx em)]at h;rw[show s+a-(s+m)=a-m by lia]at x1 x2;rw[show s+b-(s+m)=b-m by lia]at x3 x4;have ne:∀{d:Int},d%(r.length:Int)≠0->d%(r.length:Int)≠1->d≠0/\d≠1:=λ{d} u v=>⟨λc=>u (by rw[c];rfl),λc=>v (by rw[c];exact Int.emod_eq_of_lt (by lia) (by lia))⟩;obtain⟨n1,n2⟩:=ne x1 x2;obtain⟨n3,n4⟩:=ne x3 x4;by_cases hm:m<l
 ·have md:∀{d:Int},d≠0->d≠1->-(l:Int)<d->d<=l->d%((l:Int)+1)≠0/\d%((l:Int)+1)≠1:=λ{d} u v w z=>by
   by_cases c:0<=d
   ·rw[Int.emod_eq_of_lt c (by lia)];exact⟨u,v⟩
   ·have:=By (n:=(l:Int)+1) (d:=-d) (by lia) (by lia);rw[Int.neg_neg]at this;rw[this];lia
  have q1:=md n1 n2 (by lia) (by lia);have q2:=md n3 n4 (by lia) (by lia);refine p.1.nt m (by rw[ED];exact q1.1) (by rw[ED];exact q1.2) (by rw[ED];exact q2.1) (by rw[ED];exact q2.2) ?_;rw[A3 r s l a0 a1,A3 r s l b0 b1,A3 r s l (k:=m) (by lia) (by lia),A3 r s l (k:=m+1) (by lia) (by lia),show s+(m+1)=s+m+1 by lia];exact h
 ·obtain⟨Q,t,u,hQ,t0,t1,u0,u1,e1,e2⟩:=h;have es:s+m=s+l+(m-l):=by lia
  have da:=x1;have dc:=x2;have de:=x3;have df:=x4
  rw[show a-m=s+a-(s+m)by lia]at da dc;rw[show b-m=s+b-(s+m)by lia]at de df;by_cases c0:t=0
  ·refine S.s.GD da dc ⟨Q,u,hQ,u0,u1,?_,?_⟩
   ·rw[c0]at e1;grind
   ·rw[c0]at e2;grind
  by_cases c1:t=Q
  ·refine S.s.GD de df ⟨Q,u,hQ,u0,u1,?_,?_⟩
   ·rw[c1]at e1;grind
   ·rw[c1]at e2;grind
  ·refine Z9 S l2 ln L p (k:=m-l) (by lia) (by lia) hQ (t:=t) (by lia) (by lia) rfl rfl ?_;rw[<-es,A3 r s l a0 a1,A3 r s l b0 b1];exact⟨u,u0,u1,e1.symm,e2.symm⟩
theorem Zj{a b:Int}(a0:0<a)(a1:a<l)(b0:0<=b)(b1:b<=l)(p:Line (sub r s l) a b):Line r (s+a) (s+b):=by
 refine⟨u9 S l2 ln L (by lia) (by lia) b0 b1 p,?_⟩;have:=p.2;rw[A3 r s l (k:=a) (by lia) (by lia),A3 r s l b0 b1,A3 r s l (k:=a-1) (by lia) (by lia),A3 r s l (k:=a+1) (by lia) (by lia),show s+(a+1)=s+a+1 by lia,show s+(a-1)=s+a-1 by lia]at this;exact this
theorem Zi{a b:Int}(a0:0<=a)(a1:a<=l)(b0:0<=b)(b1:b<=l)(p:Line (sub r s l) a b):Line r (s+a) (s+b):=by
 have hf:=RD S l2 ln L a0 a1 b0 b1 p;by_cases c:0<a/\a<l
 ·exact Zj S l2 ln L c.1 c.2 b0 b1 p
 ·exact Line.symm S (Zj S l2 ln L (by lia) (by lia) a0 a1 (Line.symm (Jc S l2 ln L) p))
end
theorem Rq(U V W P:Pt):AE U V P+AE V W P+AE W U P=AE U V W/\AE U V W*P.1=AE V W P*U.1+AE W U P*V.1+AE U V P*W.1/\AE U V W*P.2=AE V W P*U.2+AE W U P*V.2+AE U V P*W.2:=by
 unfold AE;exact⟨by grind,by grind,by grind⟩
theorem X7{D Q T aP bP fP aR bR fR p r u v w:Int}(sP:aP+bP+fP=D)(sR:aR+bR+fR=D)(eP:D*p=bP*u+fP*v+aP*w)(eR:D*r=bR*u+fR*v+aR*w) : (D*(-aR*Q+((Q-T)*aP+T*aR)))*p+(D*(-aR*T+((Q-T)*aP+T*aR)))*(r-p)=(D*(-aR*Q+((Q-T)*aP+T*aR)))*u+(-aR*((Q-T)*fP+T*fR)+((Q-T)*aP+T*aR)*fR)*(v-u):=by
 have h1:(D*(-aR*Q+((Q-T)*aP+T*aR)))*p+(D*(-aR*T+((Q-T)*aP+T*aR)))*(r-p)=(-aR*(Q-T))*(D*p)+(-aR*T+((Q-T)*aP+T*aR))*(D*r):=by grind
 rw[h1,eP,eR];have h2:D*(-aR*Q+((Q-T)*aP+T*aR))=(-aR*((Q-T)*bP+T*bR)+((Q-T)*aP+T*aR)*bR)+(-aR*((Q-T)*fP+T*fR)+((Q-T)*aP+T*aR)*fR):=by
  have e1:D*(-aR*Q) = -aR*((Q-T)*D+T*D):=by grind
  have e2:D*((Q-T)*aP+T*aR)=((Q-T)*aP+T*aR)*D:=Int.mul_comm ..;rw[Int.mul_add,e1,e2];rw[show(Q-T)*D=(Q-T)*(aP+bP+fP)by rw[sP],show T*D=T*(aR+bR+fR)by rw[sR],show((Q-T)*aP+T*aR)*D=((Q-T)*aP+T*aR)*(aR+bR+fR)by rw[sR]]
  grind
 rw[h2]
 grind
theorem S0{U V W P R:Pt}{Q T ax bx fx:Int}(hQ:0<Q)(t0:0<=T)(t1:T<=Q)(D0:0<AE U V W) (JA:ax=(Q-T)*AE U V P+T*AE U V R) (Lf:bx=(Q-T)*AE V W P+T*AE V W R) (JE:fx=(Q-T)*AE W U P+T*AE W U R) (a0:0<=ax) (hA:AE U V R<0) (hb:0<=-AE U V R*bx+ax*AE V W R) (hf:0<=-AE U V R*fx+ax*AE W U R) : ∃q s t:Int,0<q/\0<=s/\s<=q/\0<=t/\t<=q/\q*P.1+s*(R.1-P.1)=q*U.1+t*(V.1-U.1)/\q*P.2+s*(R.2-P.2)=q*U.2+t*(V.2-U.2)/\t = -AE U V R*fx+ax*AE W U R/\q-t = -AE U V R*bx+ax*AE V W R:=by
 obtain⟨sP,iw,ix⟩:=Rq U V W P;obtain⟨sR,iy,iz⟩:=Rq U V W R;have m1:=Int.mul_pos (show 0 < -AE U V R by lia) hQ;have m2:=Int.mul_nonneg (show 0<=-AE U V R by lia) t0;have m3:=Int.mul_nonneg (show 0<=-AE U V R by lia) (show 0<=Q-T by lia);have hN:0 < -AE U V R*Q+ax:=by lia
 have hw:0<=-AE U V R*T+ax:=by lia
 have lx : -AE U V R*T+ax<=-AE U V R*Q+ax:=by rw[Int.mul_sub]at m3;lia
 have hq:=Int.mul_pos D0 hN;have lZ:AE U V W*(-AE U V R*Q+ax)-(-AE U V R*fx+ax*AE W U R) = -AE U V R*bx+ax*AE V W R:=by
  have e0:ax+bx+fx=Q*AE U V W:=by
   rw[JA,Lf,JE,show Q*AE U V W=(Q-T)*AE U V W+T*AE U V W by grind,<-sP];have:T*(AE U V P+AE V W P+AE W U P)=T*(AE U V R+AE V W R+AE W U R):=by rw[sP,sR]
   rw[this];grind
  have e1:AE U V W*(-AE U V R*Q+ax) = -AE U V R*(Q*AE U V W)+ax*AE U V W:=by grind
  rw[e1,<-e0,<-sR];grind
 refine⟨AE U V W*(-AE U V R*Q+ax),AE U V W*(-AE U V R*T+ax),-AE U V R*fx+ax*AE W U R,hq,Int.mul_nonneg (by lia) hw,Int.mul_le_mul_of_nonneg_left lx (by lia),hf,by lia,?_,?_,rfl,lZ⟩
 ·rw[JA,JE];exact X7 sP sR iw iy
 ·rw[JA,JE];exact X7 sP sR ix iz
theorem jO{U V W P R:Pt}{Q T ax bx fx:Int}(hQ:0<Q)(t0:0<=T)(t1:T<=Q)(D0:0<AE U V W) (JA:ax=(Q-T)*AE U V P+T*AE U V R) (Lf:bx=(Q-T)*AE V W P+T*AE V W R) (JE:fx=(Q-T)*AE W U P+T*AE W U R) (a0:0<=ax) (b0:0<=bx) (f0:0<=fx) (hF:0<=AE W U R) (out:AE U V R<0\/AE V W R<0) : (∃q s t:Int,0<q/\0<=s/\s<=q/\0<=t/\t<=q/\q*P.1+s*(R.1-P.1)=q*U.1+t*(V.1-U.1)/\q*P.2+s*(R.2-P.2)=q*U.2+t*(V.2-U.2)/\(0<fx->0<t))\/(∃q s t:Int,0<q/\0<=s/\s<=q/\0<=t/\t<=q/\q*P.1+s*(R.1-P.1)=q*V.1+t*(W.1-V.1)/\q*P.2+s*(R.2-P.2)=q*V.2+t*(W.2-V.2)/\(0<fx->t<q)):=by
 have c1:AE V W U=AE U V W:=by unfold AE;grind
 have gF:AE U V R<0->0<=-AE U V R*bx+ax*AE V W R->(∃q s t:Int,0<q/\0<=s/\s<=q/\0<=t/\t<=q/\q*P.1+s*(R.1-P.1)=q*U.1+t*(V.1-U.1)/\q*P.2+s*(R.2-P.2)=q*U.2+t*(V.2-U.2)/\(0<fx->0<t)):=λhA hb=>by
  have n1:=Int.mul_nonneg (show 0<=-AE U V R by lia) f0;have n2:=Int.mul_nonneg a0 hF;obtain⟨q,s,t,h1,h2,h3,h4,h5,e1,e2,et,_⟩:=S0 hQ t0 t1 D0 JA Lf JE a0 hA hb (by lia);refine⟨q,s,t,h1,h2,h3,h4,h5,e1,e2,λh=>?_⟩;have:=Int.mul_pos (show 0 < -AE U V R by lia) h;lia
 have Wd:AE V W R<0->0<=-AE V W R*ax+bx*AE U V R->(∃q s t:Int,0<q/\0<=s/\s<=q/\0<=t/\t<=q/\q*P.1+s*(R.1-P.1)=q*V.1+t*(W.1-V.1)/\q*P.2+s*(R.2-P.2)=q*V.2+t*(W.2-V.2)/\(0<fx->t<q)):=λhB ha=>by
  have n1:=Int.mul_nonneg (show 0<=-AE V W R by lia) f0;have n2:=Int.mul_nonneg b0 hF;obtain⟨q,s,t,h1,h2,h3,h4,h5,e1,e2,_,eq⟩:=S0 (U:=V) (V:=W) (W:=U) hQ t0 t1 (by rw[c1];exact D0) Lf JE JA b0 hB (by lia) ha;refine⟨q,s,t,h1,h2,h3,h4,h5,e1,e2,λh=>?_⟩;have:=Int.mul_pos (show 0 < -AE V W R by lia) h;lia
 by_cases hA:AE U V R<0
 ·by_cases hb:0<=-AE U V R*bx+ax*AE V W R
  ·exact .inl (gF hA hb)
  ·by_cases hB:AE V W R<0
   ·refine .inr (Wd hB ?_);have : -AE V W R*ax+bx*AE U V R = -(-AE U V R*bx+ax*AE V W R):=by grind
    rw[this];lia
   ·exfalso;apply hb;have n1:=Int.mul_nonneg (show 0<=-AE U V R by lia) b0;have n2:=Int.mul_nonneg a0 (show 0<=AE V W R by lia);lia
 ·have hB:AE V W R<0:=by lia
  refine .inr (Wd hB ?_);have n1:=Int.mul_nonneg (show 0<=-AE V W R by lia) a0;have n2:=Int.mul_nonneg b0 (show 0<=AE U V R by lia);lia
theorem Z0(f:Nat->Int):∀n:Nat,0<n->∃m,m<n/\∀k,k<n->f m<=f k
 |0,h=>by lia
 |1,_=>⟨0,by lia,λk hk=>by rw[show k=0 by lia];exact Int.le_refl _⟩
 |n+2,_=>by
  obtain⟨m,hm,h⟩:=Z0 f (n+1) (by lia);by_cases c:f m<=f (n+1)
  ·refine⟨m,by lia,λk hk=>?_⟩;by_cases e:k=n+1
   ·rw[e];exact c
   ·exact h k (by lia)
  ·refine⟨n+1,by lia,λk hk=>?_⟩;by_cases e:k=n+1
   ·rw[e];exact Int.le_refl _
   ·have:=h k (by lia);lia
theorem Zy(P:Nat->Prop)(f:Nat->Int):∀n:Nat,(∃k,k<n/\P k)->∃m,m<n/\P m/\∀k,k<n->P k->f k<=f m
 |0,h=>by obtain⟨k,hk,_⟩:=h;lia
 |n+1,h=>by
  by_cases c:∃k,k<n/\P k
  ·obtain⟨m,hm,pm,hx⟩:=Zy P f n c;by_cases d:P n/\f m<f n
   ·refine⟨n,by lia,d.1,λk hk pk=>?_⟩;by_cases e:k=n
    ·rw[e];exact Int.le_refl _
    ·have:=hx k (by lia) pk;lia
   ·refine⟨m,by lia,pm,λk hk pk=>?_⟩;by_cases e:k=n
    ·rw[e]at pk ⊢;exact Int.not_lt.mp λz=>d ⟨pk,z⟩
    ·exact hx k (by lia) pk
  ·obtain⟨k,hk,pk⟩:=h;have:k=n:=by
    rcases Nat.lt_or_ge k n with z|z
    ·exact absurd ⟨k,z,pk⟩ c
    ·lia
   subst this;refine⟨k,by lia,pk,λj hj pj=>?_⟩;by_cases e:j=k
   ·rw[e];exact Int.le_refl _
   ·exact absurd ⟨j,by lia,pj⟩ c
theorem G9{a b A B C D:Pt}{Q s t:Int}(e1:Q*A.1+s*(B.1-A.1)=Q*C.1+t*(D.1-C.1))(e2:Q*A.2+s*(B.2-A.2)=Q*C.2+t*(D.2-C.2)):(Q-s)*AE a b A+s*AE a b B=(Q-t)*AE a b C+t*AE a b D:=by
 have f:∀(X Y:Pt)(u:Int),(Q-u)*AE a b X+u*AE a b Y=(b.1-a.1)*((Q*X.2+u*(Y.2-X.2))-Q*a.2)-(b.2-a.2)*((Q*X.1+u*(Y.1-X.1))-Q*a.1):=λX Y u=>by unfold AE;grind
 rw[f,f,e1,e2]
theorem Fj(a b:Pt):AE a b a=0/\AE a b b=0:=by unfold AE;exact⟨by grind,by grind⟩
theorem Kp(a b c:Pt):AE b c a=AE a b c:=by unfold AE;grind
section
variable{r:List Pt}(S:Sm r)
include S
theorem Sm.norm(v k:Int):∃e:Int,0<=e/\e<r.length/\(k-(v+e))%(r.length:Int)=0:=by
 have h3:=S.s.l3;refine⟨(k-v)%(r.length:Int),Int.emod_nonneg _ (by lia),Int.emod_lt_of_pos _ (by lia),?_⟩;rw[show k-(v+(k-v)%(r.length:Int))=(k-v)-(k-v)%(r.length:Int)by lia,Int.sub_emod,Int.emod_emod_of_dvd _ (Int.dvd_refl _),Int.sub_self];rfl
theorem Sm.low:∃v:Int,∀k:Int,yy r v<=yy r k:=by
 have h3:=S.s.l3;obtain⟨m,hm,h⟩:=Z0 (λk=>yy r (k:Int)) r.length (by lia);refine⟨m,λk=>?_⟩;obtain⟨e,e0,e1,he⟩:=S.norm 0 k;rw[Int.zero_add]at he;have:=h e.toNat (by lia);rw[Int.toNat_of_nonneg e0,<-DN he]at this;exact this
theorem Sm.conv{v:Int}(hv:∀k,yy r v<=yy r k):0<AE (AA r (v-1)) (AA r v) (AA r (v+1)):=by
 have h3:=S.s.l3;have em:v-1+1=v:=by lia
 have hu:yy r v<yy r (v-1):=by have:=S.g0 v;have:=hv (v-1);lia
 have hw:yy r v<yy r (v+1):=by have:=S.g1 v;have:=hv (v+1);lia
 have su:AN r (yy r v) (v-1) = -1:=Fh (by rw[em];lia) hu;have sw:AN r (yy r v) v=1:=Fi (by lia) hw;have hc:=S.c (h:=yy r v) (j:=v) (by rw[sw];lia);unfold cc at hc;rw[Ay hw]at hc;have hR:Rr r (yy r v) v=ind (L r v (v-1))*(-1):=by
  unfold Rr;have sh:=Q2 (f:=λj=>ind (L r v j)*AN r (yy r v) j) (n:=r.length) (by lia) (λa b h=>by
   show ind (L r v a)*AN r (yy r v) a=ind (L r v b)*AN r (yy r v) b;rw[GJ h,Hl (i:=v) (i':=v) (by rw[Int.sub_self];rfl) h]) (v-1)
  rw[<-sh];rw[OJ (d:=0) (by lia) (λm hm Aw=>?_)]
  ·show ind (L r v (v-1+((0:Nat):Int)))*AN r (yy r v) (v-1+((0:Nat):Int))=_;rw[Int.natCast_zero,Int.add_zero,su]
  ·show ind (L r v (v-1+(m:Int)))*AN r (yy r v) (v-1+(m:Int))=0;by_cases m1:m=1
   ·rw[m1,show v-1+((1:Nat):Int)=v by lia,Aa (Fs r v (λc=>S.g1 v c.symm)),Int.zero_mul]
   ·have:AN r (yy r v) (v-1+(m:Int))=0:=by
     apply Classical.byContradiction;intro c;have hr:=Dc c;have h1:=hv (v-1+m);have h2:=hv (v-1+m+1);by_cases x:yy r (v-1+m)<=yy r v
     ·have:=S.g (v-1+m) v (by lia);rw[show v-1+(m:Int)-v=m-1 by lia]at this;exact DZ (by lia) (by lia) this
     ·have:=S.g (v-1+m+1) v (by lia);rw[show v-1+(m:Int)+1-v=m by lia]at this;exact DZ (by lia) (by lia) this
    rw[this,Int.mul_zero]
 rw[hR]at hc;have hn:¬ L r v (v-1):=λc=>by rw[Ay c]at hc;lia
 have hL:=(S.s.ON (h:=yy r v) (i:=v) (j:=v-1) (by rw[show v-(v-1)=1 by lia];exact DZ (by lia) (by lia)) (by rw[sw];lia) (by rw[su];lia)).resolve_left hn;unfold L at hL;rw[em]at hL;have:=(Jy (A:=AA r v) (X:=AA r (v-1)) (Y:=AA r (v+1)) hu hw).mp (Fb hL);rw[Kp]at this;exact this
theorem Sm.dO{v:Int}(D0:0<AE (AA r (v-1)) (AA r v) (AA r (v+1))){e:Int}(h1:1<=e)(h2:e<=r.length-2){P R:Pt} (KJ:(P=AA r (v+e)/\R=AA r (v+e+1))\/(P=AA r (v+e+1)/\R=AA r (v+e))) {Q T ax bx fx:Int} (hQ:0<Q) (t0:0<=T) (t1:T<=Q) (JA:ax=(Q-T)*AE (AA r (v-1)) (AA r v) P+T*AE (AA r (v-1)) (AA r v) R) (Lf:bx=(Q-T)*AE (AA r v) (AA r (v+1)) P+T*AE (AA r v) (AA r (v+1)) R) (JE:fx=(Q-T)*AE (AA r (v+1)) (AA r (v-1)) P+T*AE (AA r (v+1)) (AA r (v-1)) R) (a0:0<=ax) (b0:0<=bx) (f0:0<=fx) (hF:0<=AE (AA r (v+1)) (AA r (v-1)) R) (ok:0<fx\/(e≠r.length-2/\e≠1)) : 0<=AE (AA r (v-1)) (AA r v) R/\0<=AE (AA r v) (AA r (v+1)) R:=by
 apply Classical.byContradiction;intro c;have h3:=S.s.l3;have em:v-1+1=v:=by lia
 have m1:(v+e-(v-1))%(r.length:Int)=e+1:=by rw[show v+e-(v-1)=e+1 by lia,Int.emod_eq_of_lt (by lia) (by lia)]
 have m2:(v-1-(v+e))%(r.length:Int)=r.length-(e+1):=by rw[show v-1-(v+e) = -(e+1)by lia,By (by lia) (by lia)]
 have m3:(v+e-v)%(r.length:Int)=e:=by rw[show v+e-v=e by lia,Int.emod_eq_of_lt (by lia) (by lia)]
 have m4:(v-(v+e))%(r.length:Int)=r.length-e:=by rw[show v-(v+e) = -e by lia,By (by lia) (by lia)]
 have rev:∀{q s:Int}{a b:Pt}{x y:Int},0<q->0<=s->s<=q->q*P.1+s*(R.1-P.1)=x->q*P.2+s*(R.2-P.2)=y->∃s':Int,0<=s'/\s'<=q/\q*(AA r (v+e)).1+s'*((AA r (v+e+1)).1-(AA r (v+e)).1)=x/\q*(AA r (v+e)).2+s'*((AA r (v+e+1)).2-(AA r (v+e)).2)=y:=λ{q s a b x y} hq s0 s1 e1 e2=>by
  rcases KJ with⟨rfl,rfl⟩|⟨rfl,rfl⟩
  ·exact⟨s,s0,s1,e1,e2⟩
  ·exact⟨q-s,by lia,by lia,by rw[<-e1];grind,by rw[<-e2];grind⟩
 rcases jO hQ t0 t1 D0 JA Lf JE a0 b0 f0 hF (by lia)with⟨q,s,t,hq,s0,s1,u0,u1,e1,e2,st⟩|⟨q,s,t,hq,s0,s1,u0,u1,e1,e2,st⟩
 ·obtain⟨s',x0,x1,f1,f2⟩:=rev (a:=P) (b:=P) hq s0 s1 e1 e2;have:=S.s.share (i:=v+e) (j:=v-1) (by rw[m1];lia) hq x0 x1 u0 u1 (by rw[em];exact f1) (by rw[em];exact f2);rw[m1,m2]at this;rcases ok with k|k
  ·have:=st k;lia
  ·lia
 ·obtain⟨s',x0,x1,f1,f2⟩:=rev (a:=P) (b:=P) hq s0 s1 e1 e2;have:=S.s.share (i:=v+e) (j:=v) (by rw[m3];lia) hq x0 x1 u0 u1 f1 f2;rw[m3,m4]at this;rcases ok with k|k
  ·have:=st k;lia
  ·lia
end
section
variable{r:List Pt}(S:Sm r)
include S
set_option maxHeartbeats 1000000 in
theorem Sm.ip{v:Int}(D0:0<AE (AA r (v-1)) (AA r v) (AA r (v+1))){d:Int}(d2:2<=d)(dn:d<=r.length-2)(az:0<=AE (AA r (v-1)) (AA r v) (AA r (v+d)))(bz:0<=AE (AA r v) (AA r (v+1)) (AA r (v+d)))(fz:0<=AE (AA r (v+1)) (AA r (v-1)) (AA r (v+d))) (mx:∀e:Int,2<=e->e<=r.length-2->0<=AE (AA r (v-1)) (AA r v) (AA r (v+e))->0<=AE (AA r v) (AA r (v+1)) (AA r (v+e))->0<=AE (AA r (v+1)) (AA r (v-1)) (AA r (v+e))->AE (AA r (v+1)) (AA r (v-1)) (AA r (v+e))<=AE (AA r (v+1)) (AA r (v-1)) (AA r (v+d))):Line r v (v+d):=by
 have h3:=S.s.l3;have em:v-1+1=v:=by lia
 have en:AA r (v+(r.length-1))=AA r (v-1):=by rw[show v+((r.length:Int)-1)=v-1+r.length by lia,J2]
 obtain⟨sz,z1,z2⟩:=Rq (AA r (v-1)) (AA r v) (AA r (v+1)) (AA r (v+d));have vA:AE (AA r (v-1)) (AA r v) (AA r v)=0:=(Fj _ _).2;have vB:AE (AA r v) (AA r (v+1)) (AA r v)=0:=(Fj _ _).1;have vF:AE (AA r (v+1)) (AA r (v-1)) (AA r v)=AE (AA r (v-1)) (AA r v) (AA r (v+1)):=by rw[Kp,Kp]
 have uA:AE (AA r (v-1)) (AA r v) (AA r (v-1))=0:=(Fj _ _).1;have wB:AE (AA r v) (AA r (v+1)) (AA r (v+1))=0:=(Fj _ _).2;have wF:AE (AA r (v+1)) (AA r (v-1)) (AA r (v+1))=0:=(Fj _ _).1;have uF:AE (AA r (v+1)) (AA r (v-1)) (AA r (v-1))=0:=(Fj _ _).2;have hA:0<AE (AA r (v-1)) (AA r v) (AA r (v+d)):=by
  apply Classical.byContradiction;intro c;have c0:AE (AA r (v-1)) (AA r v) (AA r (v+d))=0:=by lia
  rw[c0,Int.zero_mul,Int.add_zero]at z1 z2;rw[c0,Int.zero_add]at sz;have at':At (AA r (v-1)) (AA r (v-1+1)) (AA r (v+d)):=by
   rw[em];refine⟨AE (AA r (v-1)) (AA r v) (AA r (v+1)),AE (AA r (v+1)) (AA r (v-1)) (AA r (v+d)),D0,fz,by lia,?_,?_⟩
   ·rw[Int.mul_sub,z1,<-sz];grind
   ·rw[Int.mul_sub,z2,<-sz];grind
  refine S.s.GD (m:=v+d) (j:=v-1) ?_ ?_ at'
  ·rw[show v+d-(v-1)=d+1 by lia,Int.emod_eq_of_lt (by lia) (by lia)];lia
  ·rw[show v+d-(v-1)=d+1 by lia,Int.emod_eq_of_lt (by lia) (by lia)];lia
 have hB:0<AE (AA r v) (AA r (v+1)) (AA r (v+d)):=by
  apply Classical.byContradiction;intro c;have c0:AE (AA r v) (AA r (v+1)) (AA r (v+d))=0:=by lia
  rw[c0,Int.zero_mul,Int.zero_add]at z1 z2;rw[c0,Int.add_zero]at sz;have at':At (AA r v) (AA r (v+1)) (AA r (v+d)):=by
   refine⟨AE (AA r (v-1)) (AA r v) (AA r (v+1)),AE (AA r (v-1)) (AA r v) (AA r (v+d)),D0,az,by lia,?_,?_⟩
   ·rw[Int.mul_sub,z1,<-sz];grind
   ·rw[Int.mul_sub,z2,<-sz];grind
  refine S.s.GD (m:=v+d) (j:=v) ?_ ?_ at'
  ·rw[show v+d-v=d by lia,Int.emod_eq_of_lt (by lia) (by lia)];lia
  ·rw[show v+d-v=d by lia,Int.emod_eq_of_lt (by lia) (by lia)];lia
 have mi:∀e:Int,0<=e->e<r.length->0<=AE (AA r (v-1)) (AA r v) (AA r (v+e))->0<=AE (AA r v) (AA r (v+1)) (AA r (v+e))->AE (AA r (v+1)) (AA r (v-1)) (AA r (v+d))<AE (AA r (v+1)) (AA r (v-1)) (AA r (v+e))->e≠0->False:=λe e0 e1 ha hb hf ez=>by
  by_cases c1:e=1
  ·rw[c1,wF]at hf;lia
  by_cases c2:e=r.length-1
  ·rw[c2,en,uF]at hf;lia
  ·have:=mx e (by lia) (by lia) ha hb (by lia);lia
 have fk:∀e:Int,1<=e->e<=r.length-1->(AA r (v+e))≠(AA r (v+d))->¬ At (AA r (v+d)) (AA r (v+e)) (AA r v)->CV (AA r (v+d)) (AA r (v+e)) (AA r v):=λe e1 e2 kJ FU a b ha hb q1 q2=>by
  have kM:(AA r v)≠(AA r (v+d)):=S.ne (by rw[show v-(v+d) = -d by lia,By (by lia) (by lia)];lia);by_cases a0:a=0
  ·refine⟨a0,?_⟩;by_cases b0:b=0
   ·exact b0
   ·exfalso;apply kM;rw[a0,Int.zero_mul]at q1 q2;have g1:=Int.mul_eq_zero.mp q1.symm;have g2:=Int.mul_eq_zero.mp q2.symm;exact Prod.ext (by lia) (by lia)
  by_cases b0:b=0
  ·exfalso;apply kJ;rw[b0,Int.zero_mul]at q1 q2;have g1:=Int.mul_eq_zero.mp q1;have g2:=Int.mul_eq_zero.mp q2;exact Prod.ext (by lia) (by lia)
  exfalso;rcases Int.lt_trichotomy b a with h|h|h
  ·have l1:a*(AA r (v+d)).1+b*((AA r v).1-(AA r (v+d)).1)=a*(AA r (v+e)).1+0*((AA r (v+e)).1-(AA r (v+e)).1):=by grind
   have l2:a*(AA r (v+d)).2+b*((AA r v).2-(AA r (v+d)).2)=a*(AA r (v+e)).2+0*((AA r (v+e)).2-(AA r (v+e)).2):=by grind
   have sA:=G9 (a:=(AA r (v-1))) (b:=(AA r v)) l1 l2;have sB:=G9 (a:=(AA r v)) (b:=(AA r (v+1))) l1 l2;have sF:=G9 (a:=(AA r (v+1))) (b:=(AA r (v-1))) l1 l2;rw[vA,Int.mul_zero,Int.add_zero,Int.zero_mul,Int.add_zero,Int.sub_zero]at sA;rw[vB,Int.mul_zero,Int.add_zero,Int.zero_mul,Int.add_zero,Int.sub_zero]at sB;rw[vF,Int.zero_mul,Int.add_zero,Int.sub_zero]at sF;have pA:=Int.mul_pos (show 0<a-b by lia) hA;have pB:=Int.mul_pos (show 0<a-b by lia) hB;have pF:=Int.mul_pos (show 0<b by lia) (show 0<AE (AA r (v-1)) (AA r v) (AA r (v+1))-AE (AA r (v+1)) (AA r (v-1)) (AA r (v+d))by lia);rw[sA]at pA;rw[sB]at pB;have tA:=Int.pos_of_mul_pos_right pA (show 0<a by lia);have tB:=Int.pos_of_mul_pos_right pB (show 0<a by lia);have tF:0<a*(AE (AA r (v+1)) (AA r (v-1)) (AA r (v+e))-AE (AA r (v+1)) (AA r (v-1)) (AA r (v+d))):=by rw[Int.mul_sub]at pF ⊢;rw[<-sF,Int.sub_mul];lia
   have tF:=Int.pos_of_mul_pos_right tF (show 0<a by lia);exact mi e (by lia) (by lia) (by lia) (by lia) (by lia) (by lia)
  ·subst h;have g1:=Int.eq_of_mul_eq_mul_left b0 q1;have g2:=Int.eq_of_mul_eq_mul_left b0 q2;have:(AA r (v+e))=(AA r v):=Prod.ext (by lia) (by lia);exact S.ne (by rw[show v+e-v=e by lia];exact DZ (by lia) (by lia)) this
  ·exact FU ⟨b,a,by lia,by lia,by lia,q1.symm,q2.symm⟩
 refine⟨⟨Iw (by lia),M3 (u:=(AA r (v+1))) (by rw[HA];lia),M3 (by lia),?_,?_,λk x1 x2 x3 x4 h=>?_⟩,.inl ⟨D0,hB,hA⟩⟩
 ·rw[show v+d+1=v+(d+1)by lia];refine fk (d+1) (by lia) (by lia) ?_ ?_
  ·rw[show v+(d+1)=v+d+1 by lia];exact S.st _
  ·rw[show v+(d+1)=v+d+1 by lia];refine S.s.GD (m:=v) (j:=v+d) ?_ ?_
   ·rw[show v-(v+d) = -d by lia,By (by lia) (by lia)];lia
   ·rw[show v-(v+d) = -d by lia,By (by lia) (by lia)];lia
 ·rw[show v+d-1=v+(d-1)by lia];have e1:v+(d-1)+1=v+d:=by lia
  refine fk (d-1) (by lia) (by lia) (λc=>S.st (v+(d-1)) (by rw[e1,c])) λc=>?_;refine S.s.GD (m:=v) (j:=v+(d-1)) ?_ ?_ (by rw[e1];exact Ju c)
  ·rw[show v-(v+(d-1)) = -(d-1)by lia,By (by lia) (by lia)];lia
  ·rw[show v-(v+(d-1)) = -(d-1)by lia,By (by lia) (by lia)];lia
 ·obtain⟨e,e0,e1,ek⟩:=S.norm v k;have ex:∀x:Int,(x-k)%(r.length:Int)=(x-(v+e))%(r.length:Int):=λx=>by
   rw[show x-(v+e)=(x-k)+(k-(v+e))by lia,Int.add_emod,ek,Int.add_zero,Int.emod_emod_of_dvd _ (Int.dvd_refl _)]
  rw[ex]at x1 x2 x3 x4;rw[An ek,An (Bx ek)]at h;have n1:e≠0:=λc=>x1 (by rw[c,Int.add_zero,Int.sub_self];rfl);have n2:e≠r.length-1:=λc=>x2 (by rw[show v-(v+e) = -e by lia,By (by lia) (by lia)];lia);obtain⟨Q,s,u,hQ,s0,s1,u0,u1,q1,q2⟩:=h;by_cases c0:s=0
  ·refine S.s.GD x1 x2 ⟨Q,u,hQ,u0,u1,?_,?_⟩
   ·rw[c0]at q1;grind
   ·rw[c0]at q2;grind
  by_cases c1:s=Q
  ·refine S.s.GD x3 x4 ⟨Q,u,hQ,u0,u1,?_,?_⟩
   ·rw[c1]at q1;grind
   ·rw[c1]at q2;grind
  have sA:=G9 (a:=(AA r (v-1))) (b:=(AA r v)) q1 q2;have sB:=G9 (a:=(AA r v)) (b:=(AA r (v+1))) q1 q2;have sF:=G9 (a:=(AA r (v+1))) (b:=(AA r (v-1))) q1 q2;rw[vA,Int.mul_zero,Int.zero_add]at sA;rw[vB,Int.mul_zero,Int.zero_add]at sB;rw[vF]at sF;have pA:=Int.mul_pos (show 0<s by lia) hA;have pB:=Int.mul_pos (show 0<s by lia) hB;have p1:=Int.mul_pos (show 0<Q-s by lia) (show 0<AE (AA r (v-1)) (AA r v) (AA r (v+1))-AE (AA r (v+1)) (AA r (v-1)) (AA r (v+d))by lia);have p2:=Int.mul_nonneg (Int.le_of_lt hQ) fz;have Pg:Q*AE (AA r (v+1)) (AA r (v-1)) (AA r (v+d))<(Q-s)*AE (AA r (v-1)) (AA r v) (AA r (v+1))+s*AE (AA r (v+1)) (AA r (v-1)) (AA r (v+d)):=by rw[Int.mul_sub]at p1;rw[Int.sub_mul Q s (AE (AA r (v+1)) (AA r (v-1)) (AA r (v+d)))]at p1;lia
  have fin:∀(P R:Pt)(t:Int),0<=t->t<=Q->((P=AA r (v+e)/\R=AA r (v+e+1))\/(P=AA r (v+e+1)/\R=AA r (v+e)))->s*AE (AA r (v-1)) (AA r v) (AA r (v+d))=(Q-t)*AE (AA r (v-1)) (AA r v) P+t*AE (AA r (v-1)) (AA r v) R->s*AE (AA r v) (AA r (v+1)) (AA r (v+d))=(Q-t)*AE (AA r v) (AA r (v+1)) P+t*AE (AA r v) (AA r (v+1)) R->(Q-s)*AE (AA r (v-1)) (AA r v) (AA r (v+1))+s*AE (AA r (v+1)) (AA r (v-1)) (AA r (v+d))=(Q-t)*AE (AA r (v+1)) (AA r (v-1)) P+t*AE (AA r (v+1)) (AA r (v-1)) R->AE (AA r (v+1)) (AA r (v-1)) P<=AE (AA r (v+1)) (AA r (v-1)) R->False:=λP R t t0 t1 KJ eA eB eF hle=>by
   have m1:=Int.mul_le_mul_of_nonneg_left hle (show 0<=Q-t by lia);have hR:AE (AA r (v+1)) (AA r (v-1)) (AA r (v+d))<AE (AA r (v+1)) (AA r (v-1)) R:=by
    apply Int.lt_of_mul_lt_mul_left (a:=Q) _ (Int.le_of_lt hQ);rw[Int.sub_mul Q t (AE (AA r (v+1)) (AA r (v-1)) R)]at m1;lia
   obtain⟨ia,ib⟩:=S.dO D0 (e:=e) (by lia) (by lia) KJ hQ t0 t1 eA eB eF (by lia) (by lia) (by lia) (by lia) (.inl (by lia));rcases KJ with⟨_,hr⟩|⟨_,hr⟩
   ·rw[hr,show v+e+1=v+(e+1)by lia]at ia ib hR;exact mi (e+1) (by lia) (by lia) ia ib hR (by lia)
   ·rw[hr]at ia ib hR;exact mi e (by lia) (by lia) ia ib hR n1
  rcases Int.le_total (AE (AA r (v+1)) (AA r (v-1)) (AA r (v+e))) (AE (AA r (v+1)) (AA r (v-1)) (AA r (v+e+1)))with hle|hle
  ·exact fin _ _ u u0 u1 (.inl ⟨rfl,rfl⟩) sA sB sF hle
  ·refine fin _ _ (Q-u) (by lia) (by lia) (.inr ⟨rfl,rfl⟩) ?_ ?_ ?_ hle
   ·rw[sA];rw[show Q-(Q-u)=u by lia];lia
   ·rw[sB];rw[show Q-(Q-u)=u by lia];lia
   ·rw[sF];rw[show Q-(Q-u)=u by lia];lia
end
theorem La{A X B:Pt}(hX:X≠A)(hB:B≠A)(h1:¬ At A B X)(h2:¬ At A X B):CV A X B:=λa b ha hb q1 q2=>by
 by_cases a0:a=0
 ·refine⟨a0,?_⟩;by_cases b0:b=0
  ·exact b0
  ·exfalso;apply hB;rw[a0,Int.zero_mul]at q1 q2;have g1:=Int.mul_eq_zero.mp q1.symm;have g2:=Int.mul_eq_zero.mp q2.symm;exact Prod.ext (by lia) (by lia)
 by_cases b0:b=0
 ·exfalso;apply hX;rw[b0,Int.zero_mul]at q1 q2;have g1:=Int.mul_eq_zero.mp q1;have g2:=Int.mul_eq_zero.mp q2;exact Prod.ext (by lia) (by lia)
 exfalso;rcases Int.le_total b a with h|h
 ·exact h1 ⟨a,b,by lia,hb,h,q1,q2⟩
 ·exact h2 ⟨b,a,by lia,ha,h,q1.symm,q2.symm⟩
theorem Rk{a b A B X:Pt}(h:At A B X)(hA:0<=AE a b A)(hB:0<=AE a b B):0<=AE a b X:=by
 obtain⟨q,s,hq,s0,s1,e1,e2⟩:=h;have l:=G9 (a:=a) (b:=b) (A:=A) (B:=B) (C:=X) (D:=X) (Q:=q) (s:=s) (t:=0) (by grind) (by grind);rw[Int.zero_mul,Int.add_zero,Int.sub_zero]at l;have m1:=Int.mul_nonneg (show 0<=q-s by lia) hA;have m2:=Int.mul_nonneg s0 hB;rcases Int.lt_or_le (AE a b X) 0 with c|c
 ·have:=Int.mul_neg_of_pos_of_neg hq c;lia
 ·exact c
section
variable{r:List Pt}(S:Sm r)
include S
set_option maxHeartbeats 1000000 in
theorem Sm.iq{v:Int}(h4:4<=r.length)(D0:0<AE (AA r (v-1)) (AA r v) (AA r (v+1))) (no:∀e:Int,2<=e->e<=r.length-2->¬ (0<=AE (AA r (v-1)) (AA r v) (AA r (v+e))/\0<=AE (AA r v) (AA r (v+1)) (AA r (v+e))/\0<=AE (AA r (v+1)) (AA r (v-1)) (AA r (v+e)))):Line r (v-1) (v+1):=by
 have em:v-1+1=v:=by lia
 have ew:v+1-1=v:=by lia
 have e2:AA r (v+(r.length-2))=AA r (v-1-1):=by rw[show v+((r.length:Int)-2)=v-1-1+r.length by lia,J2]
 have vA:AE (AA r (v-1)) (AA r v) (AA r v)=0:=(Fj _ _).2;have uA:AE (AA r (v-1)) (AA r v) (AA r (v-1))=0:=(Fj _ _).1;have uB:AE (AA r v) (AA r (v+1)) (AA r (v-1))=AE (AA r (v-1)) (AA r v) (AA r (v+1)):=by rw[Kp]
 have wB:AE (AA r v) (AA r (v+1)) (AA r (v+1))=0:=(Fj _ _).2;have wF:AE (AA r (v+1)) (AA r (v-1)) (AA r (v+1))=0:=(Fj _ _).1;have uF:AE (AA r (v+1)) (AA r (v-1)) (AA r (v-1))=0:=(Fj _ _).2;have seg:∀e:Int,2<=e->e<=r.length-2->¬ At (AA r (v-1)) (AA r (v+1)) (AA r (v+e)):=λe a b c=>no e a b ⟨Rk c (by lia) (by lia),Rk c (by lia) (by lia),Rk c (by lia) (by lia)⟩;have Yb:(AA r (v+1))≠(AA r (v-1)):=S.ne (by rw[show v+1-(v-1)=2 by lia];exact DZ (by lia) (by lia));have t1:v-1-1+1=v-1:=by lia
 have kH:AA r (v-1-1)≠(AA r (v-1)):=λc=>S.st (v-1-1) (by rw[t1,c]);have oK:¬ At (AA r (v-1)) (AA r (v-1-1)) (AA r (v+1)):=λc=>by
  refine S.s.GD (m:=v+1) (j:=v-1-1) ?_ ?_ (by rw[t1];exact Ju c)
  ·rw[show v+1-(v-1-1)=3 by lia,Int.emod_eq_of_lt (by lia) (by lia)];lia
  ·rw[show v+1-(v-1-1)=3 by lia,Int.emod_eq_of_lt (by lia) (by lia)];lia
 have oJ:¬ At (AA r (v+1)) (AA r (v+1+1)) (AA r (v-1)):=by
  refine S.s.GD (m:=v-1) (j:=v+1) ?_ ?_
  ·rw[show v-1-(v+1) = -2 by lia,By (by lia) (by lia)];lia
  ·rw[show v-1-(v+1) = -2 by lia,By (by lia) (by lia)];lia
 refine⟨⟨Iw (by lia),?_,La kH Yb (by rw[<-e2];exact seg _ (by lia) (by lia)) oK,La (S.st _) Yb.symm (λc=>seg 2 (by lia) (by lia) (by rw[show v+2=v+1+1 by lia];exact Ju c)) oJ,?_,λk x1 x2 x3 x4 h=>?_⟩,?_⟩
 ·rw[em];exact M3 (u:=(AA r v)) (by rw[HA];lia)
 ·rw[ew];exact M3 (u:=(AA r v)) (v:=(AA r (v+1))) (w:=(AA r (v-1))) (by rw[Kp];lia)
 ·obtain⟨e,e0,e1,ek⟩:=S.norm v k;have ex:∀x:Int,(x-k)%(r.length:Int)=(x-(v+e))%(r.length:Int):=λx=>by
   rw[show x-(v+e)=(x-k)+(k-(v+e))by lia,Int.add_emod,ek,Int.add_zero,Int.emod_emod_of_dvd _ (Int.dvd_refl _)]
  rw[ex]at x1 x2 x3 x4;rw[An ek,An (Bx ek)]at h;have n1:e≠r.length-1:=λc=>x1 (by rw[show v-1-(v+e)=r.length*(-1)by lia,Int.mul_emod_right]);have n2:e≠r.length-2:=λc=>x2 (by rw[show v-1-(v+e)=1+r.length*(-1)by lia,Int.add_mul_emod_self_left,Int.emod_eq_of_lt (by lia) (by lia)]);have n3:e≠1:=λc=>x3 (by rw[c,Int.sub_self];rfl);have n4:e≠0:=λc=>x4 (by rw[c,show v+1-(v+0)=1 by lia,Int.emod_eq_of_lt (by lia) (by lia)]);obtain⟨Q,s,u,hQ,s0,s1,u0,u1,q1,q2⟩:=h;have sA:=G9 (a:=(AA r (v-1))) (b:=(AA r v)) q1 q2;have sB:=G9 (a:=(AA r v)) (b:=(AA r (v+1))) q1 q2;have sF:=G9 (a:=(AA r (v+1))) (b:=(AA r (v-1))) q1 q2;rw[uA,Int.mul_zero,Int.zero_add]at sA;rw[wB,uB,Int.mul_zero,Int.add_zero]at sB;rw[uF,wF,Int.mul_zero,Int.mul_zero,Int.add_zero]at sF;have pA:=Int.mul_nonneg s0 (Int.le_of_lt D0);have pB:=Int.mul_nonneg (show 0<=Q-s by lia) (Int.le_of_lt D0);have fin:∀(P R:Pt)(t:Int),0<=t->t<=Q->((P=AA r (v+e)/\R=AA r (v+e+1))\/(P=AA r (v+e+1)/\R=AA r (v+e)))->s*AE (AA r (v-1)) (AA r v) (AA r (v+1))=(Q-t)*AE (AA r (v-1)) (AA r v) P+t*AE (AA r (v-1)) (AA r v) R->(Q-s)*AE (AA r (v-1)) (AA r v) (AA r (v+1))=(Q-t)*AE (AA r v) (AA r (v+1)) P+t*AE (AA r v) (AA r (v+1)) R->0=(Q-t)*AE (AA r (v+1)) (AA r (v-1)) P+t*AE (AA r (v+1)) (AA r (v-1)) R->0<=AE (AA r (v+1)) (AA r (v-1)) R->False:=λP R t t0 t1 KJ eA eB eF hR=>by
   obtain⟨ia,ib⟩:=S.dO D0 (e:=e) (by lia) (by lia) KJ hQ t0 t1 eA eB eF pA pB (Int.le_refl 0) hR (.inr ⟨n2,n3⟩);rcases KJ with⟨_,hr⟩|⟨_,hr⟩
   ·rw[hr,show v+e+1=v+(e+1)by lia]at ia ib hR;exact no (e+1) (by lia) (by lia) ⟨ia,ib,hR⟩
   ·rw[hr]at ia ib hR;exact no e (by lia) (by lia) ⟨ia,ib,hR⟩
  by_cases c:0<=AE (AA r (v+1)) (AA r (v-1)) (AA r (v+e+1))
  ·exact fin _ _ u u0 u1 (.inl ⟨rfl,rfl⟩) sA sB sF c
  ·refine fin _ _ (Q-u) (by lia) (by lia) (.inr ⟨rfl,rfl⟩) ?_ ?_ ?_ ?_
   ·rw[sA];rw[show Q-(Q-u)=u by lia];lia
   ·rw[sB];rw[show Q-(Q-u)=u by lia];lia
   ·rw[sF];rw[show Q-(Q-u)=u by lia];lia
   ·rcases Int.lt_or_le (AE (AA r (v+1)) (AA r (v-1)) (AA r (v+e))) 0 with z|z
    ·exfalso;have m1:=Int.mul_nonneg (show 0<=Q-u by lia) (show 0<=-AE (AA r (v+1)) (AA r (v-1)) (AA r (v+e))by lia);have m2:=Int.mul_nonneg u0 (show 0<=-AE (AA r (v+1)) (AA r (v-1)) (AA r (v+e+1))by lia);rw[Int.mul_neg]at m1 m2;by_cases cu:u=0
     ·have:=Int.mul_pos hQ (show 0 < -AE (AA r (v+1)) (AA r (v-1)) (AA r (v+e))by lia);rw[cu,Int.sub_zero,Int.zero_mul,Int.add_zero]at sF;rw[Int.mul_neg]at this;lia
     ·have:=Int.mul_pos (show 0<u by lia) (show 0 < -AE (AA r (v+1)) (AA r (v-1)) (AA r (v+e+1))by lia);rw[Int.mul_neg]at this;lia
    ·exact z
 ·unfold DC;rw[em];by_cases c:AE (AA r (v-1-1)) (AA r (v-1)) (AA r v)>0
  ·refine .inl ⟨c,D0,?_⟩;apply Classical.byContradiction;intro cn;have aT:0<AE (AA r (v-1)) (AA r v) (AA r (v-1-1)):=by rw[Kp (AA r (v-1-1))];exact c
   have fT:0<=AE (AA r (v+1)) (AA r (v-1)) (AA r (v-1-1)):=by
    have:AE (AA r (v+1)) (AA r (v-1)) (AA r (v-1-1)) = - AE (AA r (v-1-1)) (AA r (v-1)) (AA r (v+1)):=by unfold AE;grind
    lia
   have bT:¬ 0<=AE (AA r v) (AA r (v+1)) (AA r (v-1-1)):=λb=>no (r.length-2) (by lia) (by lia) (by rw[e2];exact⟨by lia,b,fT⟩);have m1:=Int.mul_nonneg (Int.le_of_lt D0) fT;have m2:=Int.mul_nonneg (Int.le_of_lt D0) (Int.le_of_lt aT);obtain⟨q,s,t,hq,s0,s1,u0,u1,f1,f2,_,_⟩:=S0 (U:=(AA r v)) (V:=(AA r (v+1))) (W:=(AA r (v-1))) (P:=(AA r (v-1))) (R:=AA r (v-1-1)) (Q:=1) (T:=0) (ax:=AE (AA r (v-1)) (AA r v) (AA r (v+1))) (bx:=0) (fx:=0) (by lia) (by lia) (by lia) (by rw[Kp];exact D0) (by rw[uB];lia) (by rw[uF];lia) (by rw[uA];lia) (Int.le_of_lt D0) (by lia) (by lia) (by lia);have:=S.s.share (i:=v-1-1) (j:=v) (s:=q-s) (by rw[show v-1-1-v = -2 by lia,By (by lia) (by lia)];lia) hq (by lia) (by lia) u0 u1 (by rw[t1,<-f1];grind) (by rw[t1,<-f2];grind);rw[show v-1-1-v = -2 by lia,By (by lia) (by lia),show v-(v-1-1)=2 by lia,Int.emod_eq_of_lt (by lia) (by lia)]at this;lia
  ·exact .inr ⟨c,.inl D0⟩
theorem Sm.diag(h4:4<=r.length):∃(s:Int)(l:Nat),2<=l/\l+2<=r.length/\Line r s (s+l):=by
 obtain⟨v,hv⟩:=S.low;have D0:=S.conv hv;by_cases c:∃k:Nat,k<r.length/\(2<=k/\k+2<=r.length/\0<=AE (AA r (v-1)) (AA r v) (AA r (v+(k:Int)))/\0<=AE (AA r v) (AA r (v+1)) (AA r (v+(k:Int)))/\0<=AE (AA r (v+1)) (AA r (v-1)) (AA r (v+(k:Int))))
 ·obtain⟨m,hm,⟨h2,hn,a,b,f⟩,mx⟩:=Zy (λk:Nat=>2<=k/\k+2<=r.length/\0<=AE (AA r (v-1)) (AA r v) (AA r (v+(k:Int)))/\0<=AE (AA r v) (AA r (v+1)) (AA r (v+(k:Int)))/\0<=AE (AA r (v+1)) (AA r (v-1)) (AA r (v+(k:Int)))) (λk:Nat=>AE (AA r (v+1)) (AA r (v-1)) (AA r (v+(k:Int)))) r.length c;refine⟨v,m,h2,hn,S.ip D0 (by lia) (by lia) a b f λe e2 en ea eb ef=>?_⟩;have:=mx e.toNat (by lia);rw[Int.toNat_of_nonneg (by lia)]at this;exact this ⟨by lia,by lia,ea,eb,ef⟩
 ·refine⟨v-1,2,by lia,h4,?_⟩;rw[show v-1+((2:Nat):Int)=v+1 by lia];refine S.iq h4 D0 λe e2 en z=>c ⟨e.toNat,by lia,by lia,by lia,?_⟩;rw[Int.toNat_of_nonneg (by lia)];exact z
end
theorem Lx{n:Int}(hn:1<n):(1:Int)%n=1:=Int.emod_eq_of_lt (by lia) hn
section
variable{r:List Pt}(S:Sm r){s:Int}{l:Nat}(l2:2<=l)(ln:l+2<=r.length)(L:Line r s (s+l))
include S l2 ln L
end
theorem sr(k:Int){a b c d:Pt}(h:B0 a b c d):B0 (lean k a) (lean k b) (lean k c) (lean k d):=by
 obtain⟨q,s,t,h1,h2,h3,h4,h5,e1,e2⟩:=h;unfold lean;exact⟨q,s,t,h1,h2,h3,h4,h5,e1,by dsimp only;grind⟩
theorem PD{k:Int}{A X B:Pt}(h:CV (lean k A) (lean k X) (lean k B)):CV A X B:=λs t hs ht e1 e2=>h s t hs ht e1 (by unfold lean;dsimp only;grind)
theorem PF(k:Int){A X B:Pt}(h:CV A X B):CV (lean k A) (lean k X) (lean k B):=λs t hs ht e1 e2=>h s t hs ht e1 (by
 unfold lean at e1 e2;dsimp only at e1 e2
 grind)
theorem Zh{r:List Pt}(h0:0<r.length)(k i j:Int):Line (r.map (lean k)) i j↔Line r i j:=by
 have hc:∀m,AA (r.map (lean k)) m=lean k (AA r m):=λm=>LU h0 k m;constructor
 ·rintro⟨p,c⟩;have p1:=p.Ce;have p2:=p.f1;have p3:=p.f2;have p4:=p.f3;have p5:=p.f4;have p6:=p.nt
  rw[List.length_map]at p1 p6;simp only[hc]at p2 p3 p4 p5 p6 c;rw[RJ]at c;exact⟨⟨p1,PD p2,PD p3,PD p4,PD p5,λm a b c d h=>p6 m a b c d (sr k h)⟩,c⟩
 ·rintro⟨p,c⟩;refine⟨⟨by rw[List.length_map];exact p.Ce,?_,?_,?_,?_,?_⟩,?_⟩
  ·rw[hc,hc,hc];exact PF k p.f1
  ·rw[hc,hc,hc];exact PF k p.f2
  ·rw[hc,hc,hc];exact PF k p.f3
  ·rw[hc,hc,hc];exact PF k p.f4
  ·intro m a b c d h;rw[List.length_map]at a b c d;rw[hc,hc,hc,hc]at h;exact p.nt m a b c d (cG h)
  ·rw[hc,hc,hc,hc,RJ];exact c
theorem Wa(f:Nat->Int):∀n:Nat,∃M:Int,0<M/\∀k,k<n->-M<f k/\f k<M
 |0=>⟨1,by lia,λk h=>by lia⟩
 |n+1=>by
  obtain⟨M,h0,h⟩:=Wa f n;refine⟨M+(f n).natAbs+1,by lia,λk hk=>?_⟩;by_cases e:k=n
  ·rw[e];lia
  ·have:=h k (by lia);lia
theorem Rm.sm{r:List Pt}(R:Rm r):∃k:Int,Sm (r.map (lean k)):=by
 have S:=R.simple;have h3:=S.l3;obtain⟨M,M0,hM⟩:=Wa (λk=>yy r (k:Int)) r.length;have hb:∀k:Int,-M<(AA r k).2/\(AA r k).2<M:=λk=>by
  have k0:=Int.emod_nonneg k (b:=(r.length:Int)) (by lia);have k1:=Int.emod_lt_of_pos k (show(0:Int)<r.length by lia);have:=hM (k%(r.length:Int)).toNat (by lia);rw[Int.toNat_of_nonneg k0]at this;unfold yy at this;rw[Fy]at this;exact this
 have R':Rm (r.map (lean (2*M))):=R.map (ZT _);refine⟨2*M,R'.simple,λh=>R'.Wh h,λi j e=>?_⟩;unfold yy at e;rw[LU (by lia),LU (by lia)]at e;unfold lean at e;dsimp only at e;rw[List.length_map];have b1:=hb i;have b2:=hb j;have x:(AA r i).1=(AA r j).1:=by
  rcases Int.lt_trichotomy (AA r i).1 (AA r j).1 with c|c|c
  ·have:=Int.mul_le_mul_of_nonneg_left (show(AA r i).1+1<=(AA r j).1 by lia) (show 0<=2*M by lia);rw[Int.mul_add]at this;lia
  ·exact c
  ·have:=Int.mul_le_mul_of_nonneg_left (show(AA r j).1+1<=(AA r i).1 by lia) (show 0<=2*M by lia);rw[Int.mul_add]at this;lia
 rw[x]at e;exact S.inj (Prod.ext x (by lia))
def sc(Q:Int)(p:Pt):Pt:=(Q*p.1,Q*p.2)
theorem M4{A X B A' X' B':Pt}{m k:Int}(hm:0<m)(hk:0<k)(x1:X'.1-A'.1=m*(X.1-A.1))(x2:X'.2-A'.2=m*(X.2-A.2))(b1:B'.1-A'.1=k*(B.1-A.1))(b2:B'.2-A'.2=k*(B.2-A.2))(h:CV A X B):CV A' X' B':=λs t hs ht e1 e2=>by
 rw[x1,b1,<-Int.mul_assoc,<-Int.mul_assoc]at e1;rw[x2,b2,<-Int.mul_assoc,<-Int.mul_assoc]at e2;obtain⟨u,v⟩:=h (s*m) (t*k) (Int.mul_nonneg hs (by lia)) (Int.mul_nonneg ht (by lia)) e1 e2;have u:=Int.mul_eq_zero.mp u;have v:=Int.mul_eq_zero.mp v;exact⟨by lia,by lia⟩
theorem gj{U A V B U' A' V' B':Pt}{m k n:Int}(hm:0<m)(hk:0<k)(hn:0<n)(u1:U'.1-A'.1=m*(U.1-A.1))(u2:U'.2-A'.2=m*(U.2-A.2))(v1:V'.1-A'.1=k*(V.1-A.1))(v2:V'.2-A'.2=k*(V.2-A.2))(b1:B'.1-A'.1=n*(B.1-A.1))(b2:B'.2-A'.2=n*(B.2-A.2)):DC U' A' V' B'↔DC U A V B:=by
 have f1:∀X Y Z:Pt,AE X Y Z=(X.2-Y.2)*(Z.1-Y.1)-(X.1-Y.1)*(Z.2-Y.2):=λX Y Z=>by unfold AE;grind
 have f2:∀X Y Z:Pt,AE X Y Z=(Y.1-X.1)*(Z.2-X.2)-(Y.2-X.2)*(Z.1-X.1):=λX Y Z=>rfl;have e1:AE U' A' V'=m*k*AE U A V:=by rw[f1,f1 U,u1,u2,v1,v2];grind
 have e2:AE A' V' B'=k*n*AE A V B:=by rw[f2,f2 A,v1,v2,b1,b2];grind
 have e3:AE U' A' B'=m*n*AE U A B:=by rw[f1,f1 U,u1,u2,b1,b2];grind
 have g:∀{c x:Int},0<c->(c*x>0↔x>0):=λhc=>⟨λh=>Int.pos_of_mul_pos_right h hc,λh=>Int.mul_pos hc h⟩;unfold DC;rw[e1,e2,e3,g (Int.mul_pos hm hk),g (Int.mul_pos hk hn),g (Int.mul_pos hm hn)]
theorem UH{Q:Int}(hQ:0<Q){a b c d:Pt}:Lt (sc Q a) (sc Q b) (sc Q c) (sc Q d)↔Lt a b c d:=by
 unfold sc;constructor
 ·rintro⟨q,s,t,h1,h2,h3,h4,h5,e,l⟩;dsimp only at e l;refine⟨q,s,t,h1,h2,h3,h4,h5,Int.eq_of_mul_eq_mul_left (a:=Q) (by lia) (by grind),Int.lt_of_mul_lt_mul_left (a:=Q) ?_ (by lia)⟩;have x1:Q*(q*a.1+s*(b.1-a.1))=q*(Q*a.1)+s*(Q*b.1-Q*a.1):=by grind
  have x2:Q*(q*c.1+t*(d.1-c.1))=q*(Q*c.1)+t*(Q*d.1-Q*c.1):=by grind
  rw[x1,x2];exact l
 ·rintro⟨q,s,t,h1,h2,h3,h4,h5,e,l⟩;refine⟨q,s,t,h1,h2,h3,h4,h5,?_,?_⟩
  ·dsimp only;have x1:q*(Q*a.2)+s*(Q*b.2-Q*a.2)=Q*(q*a.2+s*(b.2-a.2)):=by grind
   have x2:q*(Q*c.2)+t*(Q*d.2-Q*c.2)=Q*(q*c.2+t*(d.2-c.2)):=by grind
   rw[x1,x2,e]
  ·dsimp only;have x1:Q*(q*a.1+s*(b.1-a.1))=q*(Q*a.1)+s*(Q*b.1-Q*a.1):=by grind
   have x2:Q*(q*c.1+t*(d.1-c.1))=q*(Q*c.1)+t*(Q*d.1-Q*c.1):=by grind
   rw[<-x1,<-x2];exact Int.mul_lt_mul_of_pos_left l hQ
theorem nW{A B E F X:Pt}{Q u v:Int}(hQ:0<Q)(u0:0<=u)(u1:u<=Q)(v0:0<=v)(v1:v<=Q){Y:Pt}(x1:Q*E.1+u*(F.1-E.1)=X.1)(x2:Q*E.2+u*(F.2-E.2)=X.2)(y1:Q*E.1+v*(F.1-E.1)=Y.1)(y2:Q*E.2+v*(F.2-E.2)=Y.2) : (Lt (sc Q A) (sc Q B) X Y->Lt A B E F)/\(Lt X Y (sc Q A) (sc Q B)->Lt E F A B):=by
 unfold sc;have wp:∀{q t:Int},0<q->0<=t->t<=q->0<=(q-t)*u+t*v/\(q-t)*u+t*v<=q*Q:=λ{q t} hq h0 h1=>by
  have a1:=Int.mul_nonneg (show 0<=q-t by lia) u0;have a2:=Int.mul_nonneg h0 v0;have a3:=Int.mul_le_mul_of_nonneg_left u1 (show 0<=q-t by lia);have a4:=Int.mul_le_mul_of_nonneg_left v1 h0;rw[Int.sub_mul q t Q]at a3;exact⟨by lia,by lia⟩
 constructor
 ·rintro⟨q,s,t,h1,h2,h3,h4,h5,e,l⟩;obtain⟨w0,w1⟩:=wp h1 h4 h5;have m1:=Int.mul_nonneg h2 (Int.le_of_lt hQ);have m2:=Int.mul_le_mul_of_nonneg_right h3 (Int.le_of_lt hQ);refine⟨q*Q,s*Q,(q-t)*u+t*v,Int.mul_pos h1 hQ,m1,m2,w0,w1,?_,?_⟩
  ·rw[<-x2,<-y2]at e;dsimp only at e;grind
  ·rw[<-x1,<-y1]at l;dsimp only at l;have z1:q*Q*A.1+s*Q*(B.1-A.1)=q*(Q*A.1)+s*(Q*B.1-Q*A.1):=by grind
   have z2:q*Q*E.1+((q-t)*u+t*v)*(F.1-E.1)=q*(Q*E.1+u*(F.1-E.1))+t*(Q*E.1+v*(F.1-E.1)-(Q*E.1+u*(F.1-E.1))):=by grind
   rw[z1,z2];exact l
 ·rintro⟨q,t,s,h1,h4,h5,h2,h3,e,l⟩;obtain⟨w0,w1⟩:=wp h1 h4 h5;have m1:=Int.mul_nonneg h2 (Int.le_of_lt hQ);have m2:=Int.mul_le_mul_of_nonneg_right h3 (Int.le_of_lt hQ);refine⟨q*Q,(q-t)*u+t*v,s*Q,Int.mul_pos h1 hQ,w0,w1,m1,m2,?_,?_⟩
  ·rw[<-x2,<-y2]at e;dsimp only at e;grind
  ·rw[<-x1,<-y1]at l;dsimp only at l;have z1:q*Q*A.1+s*Q*(B.1-A.1)=q*(Q*A.1)+s*(Q*B.1-Q*A.1):=by grind
   have z2:q*Q*E.1+((q-t)*u+t*v)*(F.1-E.1)=q*(Q*E.1+u*(F.1-E.1))+t*(Q*E.1+v*(F.1-E.1)-(Q*E.1+u*(F.1-E.1))):=by grind
   rw[z1,z2];exact l
def ins(r:List Pt)(s:Int)(l:Nat)(Q:Int)(x:Pt):List Pt:=(sub r s l).map (sc Q) ++ [x]
theorem T4(r:List Pt)(s:Int)(l:Nat)(Q:Int)(x:Pt):(ins r s l Q x).length=l+2:=by unfold ins;rw[List.length_append,List.length_map,sub_len];rfl
theorem KU(r:List Pt)(s:Int)(l:Nat)(Q:Int)(x:Pt):((ins r s l Q x).length:Int)=l+2:=by rw[T4];lia
theorem CL(r:List Pt)(s:Int)(l:Nat)(Q:Int)(x:Pt){k:Int}(h0:0<=k)(h1:k<=l):AA (ins r s l Q x) k=sc Q (AA r (s+k)):=by
 have hs:sc Q (AA (sub r s l) k)=sc Q (AA r (s+k)):=by rw[A3 r s l h0 h1]
 rw[<-hs];unfold AA;rw[KU,ED,Int.emod_eq_of_lt h0 (by lia),Int.emod_eq_of_lt h0 (by lia)];rw[List.getD_eq_getElem?_getD,List.getD_eq_getElem?_getD];unfold ins;rw[List.getElem?_append_left (by rw[List.length_map,sub_len];lia),List.getElem?_map];have:k.toNat<(sub r s l).length:=by rw[sub_len];lia
 rw[List.getElem?_eq_getElem this]
 rfl
theorem D9(r:List Pt)(s:Int)(l:Nat)(Q:Int)(x:Pt):AA (ins r s l Q x) (l+1)=x:=by
 unfold AA;rw[KU,Int.emod_eq_of_lt (by lia) (by lia),List.getD_eq_getElem?_getD];unfold ins;rw[List.getElem?_append_right (by rw[List.length_map,sub_len];lia),List.length_map,sub_len,show((l:Int)+1).toNat-(l+1)=0 by lia]
 rfl
theorem JL(r:List Pt)(s:Int)(l:Nat)(Q:Int)(x:Pt):AA (ins r s l Q x) (l+1+1)=sc Q (AA r s):=by
 rw[An (r:=ins r s l Q x) (i:=(l:Int)+1+1) (j:=0) (by rw[KU,show(l:Int)+1+1-0=l+2 by lia,Int.emod_self]),CL r s l Q x (by lia) (by lia),Int.add_zero]
theorem NY(r:List Pt)(s:Int)(l:Nat)(Q:Int)(x:Pt)(k:Int):∃m:Int,0<=m/\m<=l+1/\(k-m)%((ins r s l Q x).length:Int)=0:=by
 refine⟨k%((l:Int)+2),Int.emod_nonneg _ (by lia),by have:=Int.emod_lt_of_pos k (show(0:Int)<(l:Int)+2 by lia);lia,?_⟩;rw[KU,Int.sub_emod,Int.emod_emod_of_dvd _ (Int.dvd_refl _),Int.sub_self]
 rfl
theorem tE{Q:Int}(hQ:0<Q){a b c d:Pt}(h:B0 (sc Q a) (sc Q b) (sc Q c) (sc Q d)):B0 a b c d:=by
 obtain⟨q,s,t,h1,h2,h3,h4,h5,e1,e2⟩:=h;unfold sc at e1 e2;dsimp only at e1 e2;exact⟨q,s,t,h1,h2,h3,h4,h5,Int.eq_of_mul_eq_mul_left (a:=Q) (by lia) (by grind),Int.eq_of_mul_eq_mul_left (a:=Q) (by lia) (by grind)⟩
section
variable{r:List Pt}(S:Sm r){s:Int}{l:Nat}(l2:2<=l)(ln:l+2<=r.length)(L:Line r s (s+l)){Q t:Int}{x:Pt}(t0:0<t)(t1:t<Q)
 (x1:Q*(AA r s).1+t*((AA r (s+l)).1-(AA r s).1)=x.1) (x2:Q*(AA r s).2+t*((AA r (s+l)).2-(AA r s).2)=x.2)
include S l2 ln L t0 t1 x1 x2
theorem ZH(k:Int):(AA (ins r s l Q x) k).2≠(AA (ins r s l Q x) (k+1)).2:=by
 obtain⟨a,a0,a1,ea⟩:=NY r s l Q x k;rw[An ea,An (Bx ea)];have hE:(AA r (s+l)).2-(AA r s).2≠0:=by
  have:=S.gn L.1.Ce.1;unfold yy at this;lia
 by_cases c1:a<l
 ·rw[CL r s l Q x a0 (by lia),CL r s l Q x (k:=a+1) (by lia) (by lia),show s+(a+1)=s+a+1 by lia];have:=S.g1 (s+a);unfold yy at this;unfold sc;intro c;dsimp only at c;exact this (Int.eq_of_mul_eq_mul_left (show Q≠0 by lia) c).symm
 by_cases c2:a=l
 ·rw[c2,D9,CL r s l Q x (by lia) (by lia)];intro c;have:(Q-t)*((AA r (s+l)).2-(AA r s).2)=0:=by
   unfold sc at c;dsimp only at c;rw[<-x2]at c;grind
  have:=Int.mul_eq_zero.mp this;lia
 ·rw[show a=(l:Int)+1 by lia,D9,JL];intro c;have:t*((AA r (s+l)).2-(AA r s).2)=0:=by
   unfold sc at c;dsimp only at c;rw[<-x2]at c;lia
  have:=Int.mul_eq_zero.mp this;lia
theorem ZI:BD (ins r s l Q x):=by
 have Sq:=Jc S l2 ln L;have hl:=KU r s l Q x;have hQ:0<Q:=by lia
 have a2:∀a:Int,s+(a+1)=s+a+1:=λa=>by lia
 have hE:(AA r (s+l)).2-(AA r s).2≠0:=by
  have:=S.gn L.1.Ce.1;unfold yy at this;lia
 have half:∀{w0 w1:Int}{P0 P1:Pt},0<=w0->w0<=Q->0<=w1->w1<=Q->P0.1=Q*(AA r (s+l)).1+w0*((AA r s).1-(AA r (s+l)).1)->P0.2=Q*(AA r (s+l)).2+w0*((AA r s).2-(AA r (s+l)).2)->P1.1=Q*(AA r (s+l)).1+w1*((AA r s).1-(AA r (s+l)).1)->P1.2=Q*(AA r (s+l)).2+w1*((AA r s).2-(AA r (s+l)).2)->∀b:Int,0<=b->b<l->B0 P0 P1 (sc Q (AA r (s+b))) (sc Q (AA r (s+b+1)))->(b=l-1/\(w0=0\/w1=0))\/(b=0/\(w0=Q\/w1=Q)):=λ{w0 w1 P0 P1} h1 h2 h3 h4 p1 p2 p3 p4 b b0 b1 h=>by
  obtain⟨q,u,v,hq,u0,u1,v0,v1,e1,e2⟩:=h;have m1:=Int.mul_nonneg (show 0<=q-u by lia) h1;have m2:=Int.mul_nonneg u0 h3;have m3:=Int.mul_le_mul_of_nonneg_left h2 (show 0<=q-u by lia);have m4:=Int.mul_le_mul_of_nonneg_left h4 u0;have m5:=Int.mul_nonneg v0 (Int.le_of_lt hQ);have m6:=Int.mul_le_mul_of_nonneg_right v1 (Int.le_of_lt hQ);rw[Int.sub_mul q u Q]at m3;have ml:(l-b)%((sub r s l).length:Int)=l-b:=by rw[ED,Int.emod_eq_of_lt (by lia) (by lia)]
  have mb:(b-l)%((sub r s l).length:Int)=l+1-(l-b):=by rw[ED,show b-(l:Int) = -(l-b)by lia,By (by lia) (by lia)]
  have:=Sq.s.share (i:=l) (j:=b) (by rw[ml];lia) (q:=q*Q) (s:=(q-u)*w0+u*w1) (t:=v*Q) (Int.mul_pos hq hQ) (by lia) (by lia) m5 m6 (by
   rw[Eu,A3 r s l (k:=(l:Int)) (by lia) (by lia),A3 r s l (k:=b) (by lia) (by lia),A3 r s l (k:=b+1) (by lia) (by lia),a2];rw[p1,p3]at e1;unfold sc at e1;dsimp only at e1;grind) (by
   rw[Eu,A3 r s l (k:=(l:Int)) (by lia) (by lia),A3 r s l (k:=b) (by lia) (by lia),A3 r s l (k:=b+1) (by lia) (by lia),a2];rw[p2,p4]at e2;unfold sc at e2;dsimp only at e2;grind)
  rw[ml,mb]at this;rcases this with⟨c1,c2,_⟩|⟨c1,c2,_⟩
  ·left;refine⟨by lia,?_⟩;have z1:(q-u)*w0=0:=Int.le_antisymm (by rw[<-c2];exact Int.le_add_of_nonneg_right m2) m1;have z2:u*w1=0:=Int.le_antisymm (by rw[<-c2];exact Int.le_add_of_nonneg_left m1) m2;have z1:=Int.mul_eq_zero.mp z1;have z2:=Int.mul_eq_zero.mp z2;clear m1 m2 m3 m4 m5 m6 e1 e2 p1 p2 p3 p4 x1 x2;lia
  ·right;refine⟨by lia,?_⟩;have n1:=Int.mul_nonneg (show 0<=q-u by lia) (show 0<=Q-w0 by lia);have n2:=Int.mul_nonneg u0 (show 0<=Q-w1 by lia);have n3:(q-u)*(Q-w0)+u*(Q-w1)=0:=by
    have:(q-u)*(Q-w0)+u*(Q-w1)=q*Q-((q-u)*w0+u*w1):=by grind
    rw[this,c2,Int.sub_self]
   have z1:(q-u)*(Q-w0)=0:=Int.le_antisymm (by rw[<-n3];exact Int.le_add_of_nonneg_right n2) n1;have z2:u*(Q-w1)=0:=Int.le_antisymm (by rw[<-n3];exact Int.le_add_of_nonneg_left n1) n2;have z1:=Int.mul_eq_zero.mp z1;have z2:=Int.mul_eq_zero.mp z2;clear m1 m2 m3 m4 m5 m6 e1 e2 p1 p2 p3 p4 x1 x2 n1 n2 n3;lia
 have hp:∀a b:Int,(a=l\/a=l+1)->0<=b->b<l->((2<=a-b/\a-b<=(l:Int)+2-2)\/(2<=-(a-b)/\-(a-b)<=(l:Int)+2-2))->¬ B0 (AA (ins r s l Q x) a) (AA (ins r s l Q x) (a+1)) (AA (ins r s l Q x) b) (AA (ins r s l Q x) (b+1)):=λa b ha b0 b1 hd h=>by
  rw[CL r s l Q x b0 (by lia),CL r s l Q x (k:=b+1) (by lia) (by lia),a2]at h;rcases ha with rfl|rfl
  ·rw[D9,CL r s l Q x (by lia) (by lia)]at h;have:=half (w0:=0) (w1:=Q-t) (by lia) (by lia) (by lia) (by lia) (by unfold sc;lia) (by unfold sc;lia) (by rw[<-x1];grind) (by rw[<-x2];grind) b b0 b1 h;lia
  ·rw[D9,JL]at h;have:=half (w0:=Q-t) (w1:=Q) (by lia) (by lia) (by lia) (by lia) (by rw[<-x1];grind) (by rw[<-x2];grind) (by unfold sc;dsimp only;grind) (by unfold sc;dsimp only;grind) b b0 b1 h;lia
 refine⟨by rw[T4];lia,λk=>?_,λk h=>absurd h (ZH S l2 ln L t0 t1 x1 x2 k),λi j hf hs=>?_⟩
 ·obtain⟨a,a0,a1,ea⟩:=NY r s l Q x k;rw[An ea,An (Bx ea),An (Bx (Bx ea))];by_cases c1:a+2<=l
  ·rw[CL r s l Q x a0 (by lia),CL r s l Q x (k:=a+1) (by lia) (by lia),CL r s l Q x (k:=a+1+1) (by lia) (by lia),a2,a2,a2];refine M4 hQ hQ ?_ ?_ ?_ ?_ (S.s.fork (s+a))<;>(unfold sc;dsimp only;grind)
  by_cases c2:a+1=l
  ·rw[CL r s l Q x a0 (by lia),c2,D9,CL r s l Q x (by lia) (by lia)];have f:=L.1.f4;rw[show s+(l:Int)-1=s+a by lia]at f;refine M4 (m:=Q) (k:=Q-t) hQ (by lia) ?_ ?_ ?_ ?_ f
   ·unfold sc;dsimp only;grind
   ·unfold sc;dsimp only;grind
   ·unfold sc;dsimp only;rw[<-x1];grind
   ·unfold sc;dsimp only;rw[<-x2];grind
  by_cases c3:a=l
  ·rw[c3,D9,JL,CL r s l Q x (by lia) (by lia)];intro u v hu hv e1 e2;have z:(u*(Q-t)+v*t)*((AA r (s+l)).2-(AA r s).2)=0:=by
    unfold sc at e2;dsimp only at e2;rw[<-x2]at e2;grind
   have z:=(Int.mul_eq_zero.mp z).resolve_right hE;have m1:=Int.mul_nonneg hu (show 0<=Q-t by lia);have m2:=Int.mul_nonneg hv (Int.le_of_lt t0);have z1:u*(Q-t)=0:=Int.le_antisymm (by rw[<-z];exact Int.le_add_of_nonneg_right m2) m1;have z2:v*t=0:=Int.le_antisymm (by rw[<-z];exact Int.le_add_of_nonneg_left m1) m2;have z1:=Int.mul_eq_zero.mp z1;have z2:=Int.mul_eq_zero.mp z2;exact⟨by omega,by omega⟩
  ·have c4:a=(l:Int)+1:=by lia
   rw[c4,D9,JL];have e3:AA (ins r s l Q x) ((l:Int)+1+1+1)=sc Q (AA r (s+1)):=by
    rw[An (r:=ins r s l Q x) (i:=(l:Int)+1+1+1) (j:=1) (by rw[hl,show(l:Int)+1+1+1-1=l+2 by lia,Int.emod_self]),CL r s l Q x (by lia) (by lia)]
   rw[e3];refine M4 (m:=t) (k:=Q) t0 hQ ?_ ?_ ?_ ?_ L.1.f1.symm
   ·unfold sc;dsimp only;rw[<-x1];lia
   ·unfold sc;dsimp only;rw[<-x2];lia
   ·unfold sc;dsimp only;grind
   ·unfold sc;dsimp only;grind
 ·obtain⟨a,a0,a1,ea⟩:=NY r s l Q x i;obtain⟨b,b0,b1,eb⟩:=NY r s l Q x j;have hf:=YC ea eb hf;rw[hl]at hf;have hd:=Mw (by lia) hf (by lia) (by lia);rw[An ea,An (Bx ea),An eb,An (Bx eb)]at hs;by_cases ca:a<l
  ·by_cases cb:b<l
   ·rw[CL r s l Q x a0 (by lia),CL r s l Q x (k:=a+1) (by lia) (by lia),CL r s l Q x b0 (by lia),CL r s l Q x (k:=b+1) (by lia) (by lia),a2,a2]at hs;exact S.s.apart (s+a) (s+b) (Iw (by lia)) (tE hQ hs)
   ·exact hp b a (by lia) a0 ca (by lia) hs.symm
  ·exact hp a b (by lia) b0 (by lia) hd hs
end
theorem c9{Q:Int}(hQ:0<Q)(H:Int)(A B a b:Pt):tm (Q*H) (sc Q A) (sc Q B) (sc Q a) (sc Q b)=tm H A B a b:=by
 unfold tm;have e:ind (Lt (sc Q A) (sc Q B) (sc Q a) (sc Q b))=ind (Lt A B a b):=by
  by_cases c:Lt A B a b
  ·rw[Ay c,Ay ((UH hQ).mpr c)]
  ·rw[Aa c,Aa λz=>c ((UH hQ).mp z)]
 have le:∀{u v:Int},Q*u<=Q*v↔u<=v:=λ{u v}=>⟨λh=>Int.le_of_mul_le_mul_left h hQ,λh=>Int.mul_le_mul_of_nonneg_left h (by lia)⟩;have lt:∀{u v:Int},Q*u<Q*v↔u<v:=λ{u v}=>⟨λh=>Int.lt_of_mul_lt_mul_left h (by lia),λh=>Int.mul_lt_mul_of_pos_left h hQ⟩;rw[e];show _*(if Q*a.2<=Q*H/\Q*H<Q*b.2 then 1 else if Q*b.2<=Q*H/\Q*H<Q*a.2 then -1 else 0)=_;simp only[le,lt]
theorem fG(r:List Pt)(s:Int)(l:Nat){Q:Int}(x:Pt)(H:Int)(A B:Pt):RQ (ins r s l Q x) H A B=AW (λk=>tm H A B (sc Q (AA r (s+k))) (sc Q (AA r (s+k+1)))) l+tm H A B (sc Q (AA r (s+l))) x+tm H A B x (sc Q (AA r s)):=by
 rw[RY,T4];show AW _ l+tm H A B (AA (ins r s l Q x) (l:Int)) (AA (ins r s l Q x) ((l:Int)+1))+tm H A B (AA (ins r s l Q x) ((l+1:Nat):Int)) (AA (ins r s l Q x) (((l+1:Nat):Int)+1))=_;rw[show(((l+1:Nat):Int))=(l:Int)+1 by lia,JL,D9,CL r s l Q x (by lia) (by lia)]
 congr 2
 refine B5 λk hk=>?_;rw[CL r s l Q x (by lia) (by lia),CL r s l Q x (k:=(k:Int)+1) (by lia) (by lia),show s+((k:Int)+1)=s+k+1 by lia]
section
variable{r:List Pt}(S:Sm r){s:Int}{l:Nat}(l2:2<=l)(ln:l+2<=r.length)(L:Line r s (s+l)){Q t:Int}{x:Pt}(t0:0<t)(t1:t<Q)
 (x1:Q*(AA r s).1+t*((AA r (s+l)).1-(AA r s).1)=x.1) (x2:Q*(AA r s).2+t*((AA r (s+l)).2-(AA r s).2)=x.2)
include S l2 ln L t0 t1 x1 x2
theorem mG{h j:Int}(hj:AN (ins r s l Q x) h j≠0):cc (ins r s l Q x) h j=1:=by
 have Sq:=Jc S l2 ln L;have Sp:=ZI S l2 ln L t0 t1 x1 x2;have hQ:0<Q:=by lia
 have p0:AA (ins r s l Q x) 0=sc Q (AA r s):=by rw[CL r s l Q x (by lia) (by lia),Int.add_zero]
 have p1:AA (ins r s l Q x) (0+1)=sc Q (AA r (s+1)):=by rw[CL r s l Q x (by lia) (by lia)];rfl
 have q0:AA (sub r s l) 0=AA r s:=by rw[A3 r s l (by lia) (by lia),Int.add_zero]
 have q1:AA (sub r s l) (0+1)=AA r (s+1):=by rw[A3 r s l (by lia) (by lia)];rfl
 obtain⟨H,hH⟩:=Sq.s.Sz (i:=0) (Sq.g1 0).symm;have hr:=Dc hH;unfold yy at hr;rw[q0,q1]at hr;have le:∀{u v:Int},Q*u<=Q*v↔u<=v:=λ{u v}=>⟨λh=>Int.le_of_mul_le_mul_left h hQ,λh=>Int.mul_le_mul_of_nonneg_left h (by lia)⟩;have lt:∀{u v:Int},Q*u<Q*v↔u<v:=λ{u v}=>⟨λh=>Int.lt_of_mul_lt_mul_left h (by lia),λh=>Int.mul_lt_mul_of_pos_left h hQ⟩;have hs:AN (ins r s l Q x) (Q*H) 0≠0:=JZ (by
  unfold yy;rw[p0,p1];show(Q*(AA r s).2<=Q*H/\Q*H<Q*(AA r (s+1)).2)\/(Q*(AA r (s+1)).2<=Q*H/\Q*H<Q*(AA r s).2);rw[le,lt,le,lt];exact hr)
 rw[Sp.Mm hj hs];have c1:=Sq.c hH;have e1:cc (ins r s l Q x) (Q*H) 0=RQ (ins r s l Q x) (Q*H) (sc Q (AA r s)) (sc Q (AA r (s+1)))+ind (Q*(AA r s).2<Q*(AA r (s+1)).2):=by
  unfold cc;show RQ _ _ (AA (ins r s l Q x) 0) (AA (ins r s l Q x) (0+1))+ind ((AA (ins r s l Q x) 0).2<(AA (ins r s l Q x) (0+1)).2)=_;rw[p0,p1];rfl
 have e2:cc (sub r s l) H 0=RQ (sub r s l) H (AA r s) (AA r (s+1))+ind ((AA r s).2<(AA r (s+1)).2):=by
  unfold cc;show RQ _ _ (AA (sub r s l) 0) (AA (sub r s l) (0+1))+ind ((AA (sub r s l) 0).2<(AA (sub r s l) (0+1)).2)=_;rw[q0,q1]
 rw[<-c1,e1,e2,lt]
 congr 1
 rw[fG,RX];have e3:AW (λk=>tm (Q*H) (sc Q (AA r s)) (sc Q (AA r (s+1))) (sc Q (AA r (s+k))) (sc Q (AA r (s+k+1)))) l=AW (λk=>tm H (AA r s) (AA r (s+1)) (AA r (s+k)) (AA r (s+k+1))) l:=B5 λk _=>c9 hQ H _ _ _ _;rw[e3,Int.add_assoc]
 congr 1
 have sg:∀a b c:Int,(if a<=Q*H/\Q*H<b then(1:Int)else if b<=Q*H/\Q*H<a then -1 else 0)+(if b<=Q*H/\Q*H<c then(1:Int)else if c<=Q*H/\Q*H<b then -1 else 0)=(if a<=Q*H/\Q*H<c then(1:Int)else if c<=Q*H/\Q*H<a then -1 else 0):=λa b c=>by
  (repeat' split)<;>lia
 rw[<-c9 hQ H (AA r s) (AA r (s+1)) (AA r (s+l)) (AA r s)];unfold tm;rw[<-sg (sc Q (AA r (s+l))).2 x.2 (sc Q (AA r s)).2,Int.mul_add];have hf:∀(X Y:Pt)(u v:Int),0<=u->u<=Q->0<=v->v<=Q->Q*(AA r (s+l)).1+u*((AA r s).1-(AA r (s+l)).1)=X.1->Q*(AA r (s+l)).2+u*((AA r s).2-(AA r (s+l)).2)=X.2->Q*(AA r (s+l)).1+v*((AA r s).1-(AA r (s+l)).1)=Y.1->Q*(AA r (s+l)).2+v*((AA r s).2-(AA r (s+l)).2)=Y.2->(∃m:Int,m%((ins r s l Q x).length:Int)≠0/\AA (ins r s l Q x) m=X/\AA (ins r s l Q x) (m+1)=Y)->ind (Lt (sc Q (AA r s)) (sc Q (AA r (s+1))) X Y)*(if X.2<=Q*H/\Q*H<Y.2 then(1:Int)else if Y.2<=Q*H/\Q*H<X.2 then -1 else 0)=ind (Lt (sc Q (AA r s)) (sc Q (AA r (s+1))) (sc Q (AA r (s+l))) (sc Q (AA r s)))*(if X.2<=Q*H/\Q*H<Y.2 then(1:Int)else if Y.2<=Q*H/\Q*H<X.2 then -1 else 0):=λX Y u v u0 u1 v0 v1 g1 g2 g3 g4 hm=>by
  obtain⟨m,m0,mX,mY⟩:=hm;by_cases c:(if X.2<=Q*H/\Q*H<Y.2 then(1:Int)else if Y.2<=Q*H/\Q*H<X.2 then -1 else 0)=0
  ·rw[c,Int.mul_zero,Int.mul_zero]
  congr 1
  have hh:=nW (A:=AA r s) (B:=AA r (s+1)) (E:=AA r (s+l)) (F:=AA r s) hQ u0 u1 v0 v1 g1 g2 g3 g4;have hc:=UH hQ (a:=AA r s) (b:=AA r (s+1)) (c:=AA r (s+l)) (d:=AA r s);by_cases k:Lt (sc Q (AA r s)) (sc Q (AA r (s+1))) X Y
  ·rw[Ay k,Ay (hc.mpr (hh.1 k))]
  ·rw[Aa k,Aa λz=>?_];have hz:=hc.mp z;have ht:=Sp.ON (h:=Q*H) (i:=0) (j:=m) (by rw[Int.zero_sub];exact λw=>m0 (by have:=Ci (n:=((ins r s l Q x).length:Int)) (a:=0) (b:=m) (by rw[Int.zero_sub];exact w);rw[Int.sub_zero]at this;exact this)) hs (by
    unfold AN yy;rw[mX,mY];exact c)
   unfold AJ.L at ht;rw[p0,p1,mX,mY]at ht;have h2:=hh.2 (ht.resolve_left k);have nl:=Sq.s.nc (i:=0) (j:=l) (by rw[ED,Int.zero_sub,By (by lia) (by lia)];lia);unfold AJ.L at nl;rw[q0,q1,Eu,A3 r s l (by lia) (by lia)]at nl;exact nl hz h2
 have hn:=KU r s l Q x;have h1:=hf (sc Q (AA r (s+l))) x 0 (Q-t) (by lia) (by lia) (by lia) (by lia) (by unfold sc;lia) (by unfold sc;lia) (by rw[<-x1];grind) (by rw[<-x2];grind) ⟨l,by rw[hn];exact DZ (by lia) (by lia),CL r s l Q x (by lia) (by lia),D9 ..⟩;have h2:=hf x (sc Q (AA r s)) (Q-t) Q (by lia) (by lia) (by lia) (by lia) (by rw[<-x1];grind) (by rw[<-x2];grind) (by unfold sc;dsimp only;grind) (by unfold sc;dsimp only;grind) ⟨l+1,by rw[hn];exact DZ (by lia) (by lia),D9 ..,JL ..⟩;rw[h1,h2]
end
theorem Sr{p q:Int}(h:p=p+q):q=0:=by omega
theorem jJ{Q t e s:Int}(h:Q*e=Q*s+t*(e-s)):(Q-t)*(e-s)=0:=by grind
theorem W0{q Q b u a v c w d x:Int}(y:Q*b+u*(a-b)=x)(e:q*(Q*b)+v*(x-Q*b)=q*(Q*c)+w*(Q*d-Q*c)):q*Q*b+v*u*(a-b)=q*Q*c+w*Q*(d-c):=by subst y;grind
theorem W2{K V W b a d:Int}(f:K*b+V*(a-b)=K*a+W*(d-a)):W*(d-a)=(K-V)*(b-a):=by grind
theorem W3{K V W b a c:Int}(f:K*b+V*(a-b)=K*c+W*(a-c)):(K-W)*(c-a)=(K-V)*(b-a):=by grind
theorem W4{q Q p w r t v x:Int}(e:Q*p+w*(r-p)=x)(f:q*(Q*t-x)=v*(Q*p-x)):q*Q*(t-p)=(q-v)*w*(r-p):=by subst e;grind
theorem Oi{Q w:Int}{x P R T:Pt}(w0:0<w)(w1:w<Q)(e1:Q*P.1+w*(R.1-P.1)=x.1)(e2:Q*P.2+w*(R.2-P.2)=x.2)(h:At x (sc Q P) (sc Q T)):At P R T:=by
 obtain⟨q,v,hq,v0,v1,f1,f2⟩:=h;have hQ:0<Q:=by lia
 have m1:=Int.mul_nonneg (show 0<=q-v by lia) (Int.le_of_lt w0);have m2:=Int.mul_le_mul_of_nonneg_left (Int.le_of_lt w1) (show 0<=q-v by lia);have m3:=Int.mul_nonneg v0 (Int.le_of_lt hQ);rw[Int.sub_mul q v Q]at m2;exact⟨q*Q,(q-v)*w,Int.mul_pos hq hQ,m1,by lia,W4 e1 f1,W4 e2 f2⟩
section
variable{r:List Pt}(S:Sm r){s:Int}{l:Nat}(l2:2<=l)(ln:l+2<=r.length)(L:Line r s (s+l)){Q t u:Int}{x:Pt}(t0:0<t)(t1:t<Q)
 (x1:Q*(AA r s).1+t*((AA r (s+l)).1-(AA r s).1)=x.1) (x2:Q*(AA r s).2+t*((AA r (s+l)).2-(AA r s).2)=x.2)
 {a b:Int} (a0:0<a) (a1:a<l) (b0:0<b) (b1:b<l) (LB:Line r (s+b) (s+a)) (u0:0<u) (u1:u<Q)
 (y1:Q*(AA r (s+b)).1+u*((AA r (s+a)).1-(AA r (s+b)).1)=x.1) (y2:Q*(AA r (s+b)).2+u*((AA r (s+a)).2-(AA r (s+b)).2)=x.2)
include S l2 ln L t0 t1 x1 x2 a0 a1 b0 b1 LB u0 u1 y1 y2
set_option maxHeartbeats 1000000 in
theorem mI:Probe (ins r s l Q x) b (l+1):=by
 have hQ:0<Q:=by lia
 have hl:=KU r s l Q x;have pb:AA (ins r s l Q x) b=sc Q (AA r (s+b)):=CL r s l Q x (by lia) (by lia);have hE:(AA r (s+l)).2-(AA r s).2≠0:=by have:=S.gn L.1.Ce.1;unfold yy at this;lia
 have hA:(AA r (s+a)).2-(AA r (s+b)).2≠0:=by have:=S.gn LB.1.Ce.1;unfold yy at this;lia
 have nB:x≠sc Q (AA r (s+b)):=λc=>by
  have c2:=congrArg Prod.snd c;rw[<-y2]at c2;unfold sc at c2;dsimp only at c2;have:=Int.mul_eq_zero.mp (Sr c2.symm);omega
 have nS:sc Q (AA r s)≠x:=λc=>by
  have c2:=congrArg Prod.snd c;rw[<-x2]at c2;unfold sc at c2;dsimp only at c2;have:=Int.mul_eq_zero.mp (Sr c2);omega
 have nE:sc Q (AA r (s+l))≠x:=λc=>by
  have c2:=congrArg Prod.snd c;rw[<-x2]at c2;unfold sc at c2;dsimp only at c2;have:=Int.mul_eq_zero.mp (jJ c2);omega
 have vB:¬ At (AA r s) (AA r (s+l)) (AA r (s+b)):=L.1.GL S.s (by rw[show s-(s+b) = -b by lia,By (by lia) (by lia)];lia) (by rw[show s+(l:Int)-(s+b)=l-b by lia];exact DZ (by lia) (by lia));have vS:¬ At (AA r (s+b)) (AA r (s+a)) (AA r s):=LB.1.GL S.s (by rw[show s+b-s=b by lia];exact DZ (by lia) (by lia)) (by rw[show s+a-s=a by lia];exact DZ (by lia) (by lia));have vE:¬ At (AA r (s+b)) (AA r (s+a)) (AA r (s+l)):=LB.1.GL S.s (by rw[show s+b-(s+(l:Int)) = -(l-b)by lia,By (by lia) (by lia)];lia) (by rw[show s+a-(s+(l:Int)) = -(l-a)by lia,By (by lia) (by lia)];lia);refine⟨by rw[hl];exact Iw (by lia),?_,?_,?_,?_,λk z1 z2 z3 z4 h=>?_⟩
 ·rw[pb,D9,CL r s l Q x (k:=b+1) (by lia) (by lia),show s+(b+1)=s+b+1 by lia];refine M4 (m:=Q) (k:=u) hQ u0 ?_ ?_ ?_ ?_ LB.1.f1
  ·unfold sc;dsimp only;grind
  ·unfold sc;dsimp only;grind
  ·unfold sc;dsimp only;rw[<-y1];lia
  ·unfold sc;dsimp only;rw[<-y2];lia
 ·rw[pb,D9,CL r s l Q x (k:=b-1) (by lia) (by lia),show s+(b-1)=s+b-1 by lia];refine M4 (m:=Q) (k:=u) hQ u0 ?_ ?_ ?_ ?_ LB.1.f2
  ·unfold sc;dsimp only;grind
  ·unfold sc;dsimp only;grind
  ·unfold sc;dsimp only;rw[<-y1];lia
  ·unfold sc;dsimp only;rw[<-y2];lia
 ·rw[pb,JL,D9];exact La nS nB.symm (λc=>vS (Oi u0 u1 y1 y2 c)) (λc=>vB (Oi t0 t1 x1 x2 c))
 ·rw[pb,D9,show(l:Int)+1-1=l by lia,CL r s l Q x (k:=(l:Int)) (by lia) (by lia)];refine La nE nB.symm (λc=>vE (Oi u0 u1 y1 y2 c)) (λc=>vB (Ju (Oi (P:=AA r (s+l)) (R:=AA r s) (w:=Q-t) (by lia) (by lia) ?_ ?_ c)))
  ·rw[<-x1];grind
  ·rw[<-x2];grind
 ·obtain⟨m,m0,m1,em⟩:=NY r s l Q x k;have ek:∀z:Int,(z-k)%((ins r s l Q x).length:Int)=(z-m)%((ins r s l Q x).length:Int):=λz=>by
   rw[show z-m=(z-k)+(k-m)by lia,Int.add_emod,em,Int.add_zero,Int.emod_emod_of_dvd _ (Int.dvd_refl _)]
  rw[ek]at z1 z2 z3 z4;have n1:m≠b:=λc=>z1 (by rw[c,Int.sub_self];rfl);have n2:m≠b-1:=λc=>z2 (by rw[hl,c,show b-(b-1)=1 by lia];exact Lx (by lia));have n3:m≠l+1:=λc=>z3 (by rw[c,Int.sub_self];rfl);have n4:m≠l:=λc=>z4 (by rw[hl,c,show(l:Int)+1-l=1 by lia];exact Lx (by lia));rw[An em,An (Bx em),pb,D9,CL r s l Q x (k:=m) (by lia) (by lia),CL r s l Q x (k:=m+1) (by lia) (by lia),show s+(m+1)=s+m+1 by lia]at h;obtain⟨q,v,w,hq,v0,v1,w0,w1,e1,e2⟩:=h;have f1:=W0 y1 e1;have f2:=W0 y2 e2;have lY:=Int.mul_pos hq hQ;have g1:=Int.mul_nonneg v0 (Int.le_of_lt u0);have g2:=Int.mul_le_mul_of_nonneg_right v1 (Int.le_of_lt u0);have g3:=Int.mul_lt_mul_of_pos_left u1 hq;have g4:=Int.mul_nonneg w0 (Int.le_of_lt hQ);have g5:=Int.mul_le_mul_of_nonneg_right w1 (Int.le_of_lt hQ);by_cases c1:m=a
  ·rw[c1]at f1 f2;have:=(LB.1.f3 (w*Q) (q*Q-v*u) g4 (by lia) (W2 f1) (W2 f2)).2;lia
  by_cases c2:m=a-1
  ·rw[c2,show s+(a-1)+1=s+a by lia,show s+(a-1)=s+a-1 by lia]at f1 f2;have:=(LB.1.f4 (q*Q-w*Q) (q*Q-v*u) (by lia) (by lia) (W3 f1) (W3 f2)).2;lia
  ·have md:∀{d:Int},d≠0->d≠1->-(l:Int)<d->d<l->d%(r.length:Int)≠0/\d%(r.length:Int)≠1:=λ{d} k1 k2 k3 k4=>by
    by_cases c:0<=d
    ·rw[Int.emod_eq_of_lt c (by lia)];exact⟨k1,k2⟩
    ·have:=By (n:=(r.length:Int)) (d:=-d) (by lia) (by lia);rw[Int.neg_neg]at this;rw[this];lia
   have q1:=md (d:=b-m) (by lia) (by lia) (by lia) (by lia);have q2:=md (d:=a-m) (by lia) (by lia) (by lia) (by lia);rw[show b-m=s+b-(s+m)by lia]at q1;rw[show a-m=s+a-(s+m)by lia]at q2;exact LB.1.nt (s+m) q1.1 q1.2 q2.1 q2.2 ⟨q*Q,v*u,w*Q,lY,g1,by lia,g4,g5,f1,f2⟩
set_option maxHeartbeats 1000000 in
theorem Wz:0<AE (AA r (s+l)) (AA r s) (AA r (s+b)):=by
 have hQ:0<Q:=by lia
 have Sp:=ZI S l2 ln L t0 t1 x1 x2;have cp:∀{h j:Int},AN (ins r s l Q x) h j≠0->cc (ins r s l Q x) h j=1:=λh=>mG S l2 ln L t0 t1 x1 x2 h;have p:=mI S l2 ln L t0 t1 x1 x2 a0 a1 b0 b1 LB u0 u1 y1 y2;have nh:=ZH S l2 ln L t0 t1 x1 x2;have pb:AA (ins r s l Q x) b=sc Q (AA r (s+b)):=CL r s l Q x (by lia) (by lia);have hA:(AA r (s+a)).2-(AA r (s+b)).2≠0:=by have:=S.gn LB.1.Ce.1;unfold yy at this;lia
 have gB:yy (ins r s l Q x) (l+1)≠yy (ins r s l Q x) b:=by
  unfold yy;rw[D9,pb,<-y2];unfold sc;dsimp only;intro c;have:=Int.mul_eq_zero.mp (Sr c.symm);omega
 have g0:∀k:Int,yy (ins r s l Q x) (k-1)≠yy (ins r s l Q x) k:=λk=>by
  have:=nh (k-1);rw[show k-1+1=k by lia]at this;exact this
 have g1:∀k:Int,yy (ins r s l Q x) (k+1)≠yy (ins r s l Q x) k:=λk=>(nh k).symm;obtain⟨H,hH,z⟩:=Probe.Oy Sp cp p (g0 b) (g1 b) gB;obtain⟨H',xX,z'⟩:=Probe.Oy Sp cp (p.symm Sp) (g0 _) (g1 _) gB.symm;have cB:DC (AA (ins r s l Q x) (b-1)) (AA (ins r s l Q x) b) (AA (ins r s l Q x) (b+1)) (AA (ins r s l Q x) (l+1)):=by
  rw[pb,D9,CL r s l Q x (k:=b-1) (by lia) (by lia),CL r s l Q x (k:=b+1) (by lia) (by lia),show s+(b+1)=s+b+1 by lia,show s+(b-1)=s+b-1 by lia];refine(gj (m:=Q) (k:=Q) (n:=u) hQ hQ u0 ?_ ?_ ?_ ?_ ?_ ?_).mpr LB.2
  ·unfold sc;dsimp only;grind
  ·unfold sc;dsimp only;grind
  ·unfold sc;dsimp only;grind
  ·unfold sc;dsimp only;grind
  ·unfold sc;dsimp only;rw[<-y1];lia
  ·unfold sc;dsimp only;rw[<-y2];lia
 have e1:RQ (ins r s l Q x) H (AA (ins r s l Q x) b) (AA (ins r s l Q x) (l+1))=1:=by
  rcases z with⟨k,_⟩|⟨_,k⟩
  ·exact k
  ·exact absurd cB k
 rw[p.along Sp hH (h':=H') (by lia),<-RW]at e1;have cx:DC (AA (ins r s l Q x) ((l:Int)+1-1)) (AA (ins r s l Q x) (l+1)) (AA (ins r s l Q x) (l+1+1)) (AA (ins r s l Q x) b):=by
  rcases z' with⟨_,k⟩|⟨k,_⟩
  ·exact k
  ·rw[e1]at k;cases k
 rw[pb,D9,JL,show(l:Int)+1-1=l by lia,CL r s l Q x (k:=(l:Int)) (by lia) (by lia)]at cx;have s0:AE (sc Q (AA r (s+l))) x (sc Q (AA r s))=0:=by unfold AE sc;dsimp only;rw[<-x1,<-x2];grind
 have sa:AE x (sc Q (AA r s)) (sc Q (AA r (s+b)))=t*Q*AE (AA r (s+l)) (AA r s) (AA r (s+b)):=by unfold AE sc;dsimp only;rw[<-x1,<-x2];grind
 have sb:AE (sc Q (AA r (s+l))) x (sc Q (AA r (s+b)))=(Q-t)*Q*AE (AA r (s+l)) (AA r s) (AA r (s+b)):=by unfold AE sc;dsimp only;rw[<-x1,<-x2];grind
 unfold DC at cx;rw[s0,sa,sb]at cx;have m1:=Int.mul_pos t0 hQ;have m2:=Int.mul_pos (show 0<Q-t by lia) hQ;rcases cx with⟨k,_⟩|⟨_,k|k⟩
 ·exact absurd k (by decide)
 ·exact Int.pos_of_mul_pos_right k m1
 ·exact Int.pos_of_mul_pos_right k m2
end
section
variable{r:List Pt}(S:Sm r){s:Int}{l:Nat}(l2:2<=l)(ln:l+2<=r.length)(L:Line r s (s+l))
include S l2 ln L
theorem nv{a b:Int}(a0:0<a)(a1:a<l)(b0:0<b)(b1:b<l)(LA:Line r (s+a) (s+b)):¬ B0 (AA r (s+a)) (AA r (s+b)) (AA r s) (AA r (s+l)):=by
 rintro⟨Q,u,t,hQ,u0,u1,t0,t1,e1,e2⟩;have vo:∀{c:Int},0<c->c<l->¬ At (AA r s) (AA r (s+l)) (AA r (s+c)):=λ{c} c0 c1=>L.1.GL S.s (by rw[show s-(s+c) = -c by lia,By (by lia) (by lia)];lia) (by rw[show s+(l:Int)-(s+c)=l-c by lia];exact DZ (by lia) (by lia));have vS:¬ At (AA r (s+a)) (AA r (s+b)) (AA r s):=LA.1.GL S.s (by rw[show s+a-s=a by lia];exact DZ (by lia) (by lia)) (by rw[show s+b-s=b by lia];exact DZ (by lia) (by lia));have vE:¬ At (AA r (s+a)) (AA r (s+b)) (AA r (s+l)):=LA.1.GL S.s (by rw[show s+a-(s+(l:Int)) = -(l-a)by lia,By (by lia) (by lia)];lia) (by rw[show s+b-(s+(l:Int)) = -(l-b)by lia,By (by lia) (by lia)];lia);have n1:u≠0:=λc=>vo a0 a1 ⟨Q,t,hQ,t0,t1,by rw[c]at e1;grind,by rw[c]at e2;grind⟩;have n2:u≠Q:=λc=>vo b0 b1 ⟨Q,t,hQ,t0,t1,by rw[c]at e1;grind,by rw[c]at e2;grind⟩;have n3:t≠0:=λc=>vS ⟨Q,u,hQ,u0,u1,by rw[c]at e1;grind,by rw[c]at e2;grind⟩;have n4:t≠Q:=λc=>vE ⟨Q,u,hQ,u0,u1,by rw[c]at e1;grind,by rw[c]at e2;grind⟩;have pa:=Wz S l2 ln L (Q:=Q) (t:=t) (u:=u) (x:=(Q*(AA r s).1+t*((AA r (s+l)).1-(AA r s).1),Q*(AA r s).2+t*((AA r (s+l)).2-(AA r s).2))) (by lia) (by lia) rfl rfl b0 b1 a0 a1 LA (by lia) (by lia) e1 e2;have pb:=Wz S l2 ln L (Q:=Q) (t:=t) (u:=Q-u) (x:=(Q*(AA r s).1+t*((AA r (s+l)).1-(AA r s).1),Q*(AA r s).2+t*((AA r (s+l)).2-(AA r s).2))) (by lia) (by lia) rfl rfl a0 a1 b0 b1 (Line.symm S LA) (by lia) (by lia) (by dsimp only;rw[<-e1];grind) (by dsimp only;rw[<-e2];grind);have l1:=G9 (a:=AA r (s+l)) (b:=AA r s) e1 e2;rw[(Fj _ _).1,(Fj _ _).2,Int.mul_zero,Int.mul_zero,Int.add_zero]at l1;have m1:=Int.mul_pos (show 0<Q-u by lia) pa;have m2:=Int.mul_pos (show 0<u by lia) pb;lia
end
theorem tD{a b c d:Pt}(h:B0 a b c d):B0 a b d c:=(OB h.symm).symm
section
variable{r:List Pt}(S:Sm r){s:Int}{l:Nat}(l2:2<=l)(ln:l+2<=r.length)(L:Line r s (s+l))
include S l2 ln L
theorem Xk{a b:Int}(a0:0<=a)(a1:a<=l)(b0:0<=b)(b1:b<=l)(hd:(2<=a-b/\a-b<=l-1)\/(2<=b-a/\b-a<=l-1))(p:Line r (s+a) (s+b)):CV (AA (sub r s l) a) (AA (sub r s l) (a+1)) (AA (sub r s l) b):=by
 rw[A3 r s l a0 a1,A3 r s l b0 b1];by_cases c:a<l
 ·rw[A3 r s l (k:=a+1) (by lia) (by lia),show s+(a+1)=s+a+1 by lia];exact p.1.f1
 ·have c:a=l:=by lia
  subst c;rw[Eu];refine La (S.ne ?_) (S.ne ?_) (p.1.GL S.s ?_ ?_) λz=>L.1.GL S.s (m:=s+b) ?_ ?_ (Ju z)
  ·rw[show s-(s+(l:Int)) = -l by lia,By (by lia) (by lia)];lia
  ·rw[show s+b-(s+(l:Int)) = -(l-b)by lia,By (by lia) (by lia)];lia
  ·rw[show s+(l:Int)-s=l by lia];exact DZ (by lia) (by lia)
  ·rw[show s+b-s=b by lia];exact DZ (by lia) (by lia)
  ·rw[show s-(s+b) = -b by lia,By (by lia) (by lia)];lia
  ·rw[show s+(l:Int)-(s+b)=l-b by lia];exact DZ (by lia) (by lia)
theorem Xl{a b:Int}(a0:0<=a)(a1:a<=l)(b0:0<=b)(b1:b<=l)(hd:(2<=a-b/\a-b<=l-1)\/(2<=b-a/\b-a<=l-1))(p:Line r (s+a) (s+b)):CV (AA (sub r s l) a) (AA (sub r s l) (a-1)) (AA (sub r s l) b):=by
 rw[A3 r s l a0 a1,A3 r s l b0 b1];by_cases c:0<a
 ·rw[A3 r s l (k:=a-1) (by lia) (by lia),show s+(a-1)=s+a-1 by lia];exact p.1.f2
 ·have c:a=0:=by lia
  subst c;have e:AA (sub r s l) (0-1)=AA r (s+l):=by
   rw[An (i:=0-1) (j:=l) (by rw[ED,show(0:Int)-1-l=((l:Int)+1)*(-1)by lia,Int.mul_emod_right]),A3 r s l (by lia) (by lia)]
  rw[e];refine La (S.ne ?_) (S.ne ?_) (p.1.GL S.s ?_ ?_) ?_
  ·rw[show s+(l:Int)-(s+0)=l by lia];exact DZ (by lia) (by lia)
  ·rw[show s+b-(s+0)=b by lia];exact DZ (by lia) (by lia)
  ·rw[show s+0-(s+(l:Int)) = -l by lia,By (by lia) (by lia)];lia
  ·rw[show s+b-(s+(l:Int)) = -(l-b)by lia,By (by lia) (by lia)];lia
  ·rw[Int.add_zero];refine L.1.GL S.s (m:=s+b) ?_ ?_
   ·rw[show s-(s+b) = -b by lia,By (by lia) (by lia)];lia
   ·rw[show s+(l:Int)-(s+b)=l-b by lia];exact DZ (by lia) (by lia)
theorem ir{a b:Int}(a0:0<=a)(a1:a<=l)(b0:0<=b)(b1:b<=l)(hd:(2<=a-b/\a-b<=l-1)\/(2<=b-a/\b-a<=l-1))(p:Line r (s+a) (s+b)):Probe (sub r s l) a b:=by
 have p':=Line.symm S p;have hl:=ED r s l;refine⟨by rw[hl];exact Iw (by lia),Xk S l2 ln L a0 a1 b0 b1 hd p,Xl S l2 ln L a0 a1 b0 b1 hd p,Xk S l2 ln L b0 b1 a0 a1 hd.symm p',Xl S l2 ln L b0 b1 a0 a1 hd.symm p',λk x1 x2 x3 x4 h=>?_⟩;obtain⟨m,m0,m1,em⟩:=ME r s l k;have ek:∀z:Int,(z-k)%((sub r s l).length:Int)=(z-m)%((sub r s l).length:Int):=λz=>by
  rw[show z-m=(z-k)+(k-m)by lia,Int.add_emod,em,Int.add_zero,Int.emod_emod_of_dvd _ (Int.dvd_refl _)]
 rw[ek]at x1 x2 x3 x4;have n1:m≠a:=λc=>x1 (by rw[c,Int.sub_self];rfl);have n2:m≠a-1:=λc=>x2 (by rw[hl,c,show a-(a-1)=1 by lia];exact Lx (by lia));have n3:m≠b:=λc=>x3 (by rw[c,Int.sub_self];rfl);have n4:m≠b-1:=λc=>x4 (by rw[hl,c,show b-(b-1)=1 by lia];exact Lx (by lia));rw[An em,An (Bx em),A3 r s l a0 a1,A3 r s l b0 b1,A3 r s l m0 m1]at h;by_cases c:m<l
 ·rw[A3 r s l (k:=m+1) (by lia) (by lia),show s+(m+1)=s+m+1 by lia]at h;have md:∀{d:Int},d≠0->d≠1->-(l:Int)<d->d<=l->d%(r.length:Int)≠0/\d%(r.length:Int)≠1:=λ{d} k1 k2 k3 k4=>by
   by_cases c:0<=d
   ·rw[Int.emod_eq_of_lt c (by lia)];exact⟨k1,k2⟩
   ·have:=By (n:=(r.length:Int)) (d:=-d) (by lia) (by lia);rw[Int.neg_neg]at this;rw[this];lia
  have q1:=md (d:=a-m) (by lia) (by lia) (by lia) (by lia);have q2:=md (d:=b-m) (by lia) (by lia) (by lia) (by lia);rw[show a-m=s+a-(s+m)by lia]at q1;rw[show b-m=s+b-(s+m)by lia]at q2;exact p.1.nt (s+m) q1.1 q1.2 q2.1 q2.2 h
 ·have c:m=l:=by lia
  subst c;have n5:a≠0:=λc=>x2 (by rw[hl,c,show(0:Int)-l=1+((l:Int)+1)*(-1)by lia,Int.add_mul_emod_self_left];exact Lx (by lia));have n6:b≠0:=λc=>x4 (by rw[hl,c,show(0:Int)-l=1+((l:Int)+1)*(-1)by lia,Int.add_mul_emod_self_left];exact Lx (by lia));rw[Eu]at h;exact nv S l2 ln L (by lia) (by lia) (by lia) (by lia) p (tD h)
theorem Zf{a b:Int}(a0:0<a)(a1:a<l)(b0:0<=b)(b1:b<=l)(hd:(2<=a-b/\a-b<=l-1)\/(2<=b-a/\b-a<=l-1))(p:Line r (s+a) (s+b)):Line (sub r s l) a b:=by
 refine⟨ir S l2 ln L (by lia) (by lia) b0 b1 hd p,?_⟩;rw[A3 r s l (k:=a) (by lia) (by lia),A3 r s l b0 b1,A3 r s l (k:=a-1) (by lia) (by lia),A3 r s l (k:=a+1) (by lia) (by lia),show s+(a+1)=s+a+1 by lia,show s+(a-1)=s+a-1 by lia];exact p.2
theorem nK{a b:Int}(a0:0<=a)(a1:a<=l)(b0:0<=b)(b1:b<=l)(hd:(2<=a-b/\a-b<=l-1)\/(2<=b-a/\b-a<=l-1))(p:Line r (s+a) (s+b)):Line (sub r s l) a b:=by
 by_cases c:0<a/\a<l
 ·exact Zf S l2 ln L c.1 c.2 b0 b1 hd p
 ·exact Line.symm (Jc S l2 ln L) (Zf S l2 ln L (by lia) (by lia) a0 a1 hd.symm (Line.symm S p))
end
def X(e f:Nat×Nat):Prop:=(e.1<f.1/\f.1<e.2/\e.2<f.2)\/(f.1<e.1/\e.1<f.2/\f.2<e.2)
structure Full(r:List Pt)(c:Int)(M:List (Nat×Nat)):Prop where
 nd:M.Nodup
 ln:∀e∈M,e.1<e.2/\e.2<r.length/\Line r (e.1+c) (e.2+c)
 nx:∀e∈M,∀f∈M,¬ X e f
 mx:∀i j:Nat,i<j->j<r.length->Line r (i+c) (j+c)->(i,j)∈M\/∃f∈M,X (i,j) f
theorem Line.gap{r:List Pt}{c:Int}{i j:Nat}(h3:3<=r.length)(Cg:i<j)(hj:j<r.length)(L:Line r (i+c) (j+c)):i+2<=j/\j+2<=i+r.length:=by
 have:=L.1.Ce;have:=Mw (by lia) this (by lia) (by lia);lia
theorem Sm.place{r:List Pt}(S:Sm r){c a b:Int}(L:Line r a b):∃i j:Nat,i<j/\j<r.length/\Line r (i+c) (j+c):=by
 obtain⟨x,x0,x1,ex⟩:=S.norm c a;obtain⟨y,y0,y1,ey⟩:=S.norm c b;have L':=L.congr ex ey;have ne:x≠y:=λe=>L'.1.Ce.1 (by rw[e,Int.sub_self];rfl);rcases Int.lt_or_gt_of_ne ne with h|h
 ·refine⟨x.toNat,y.toNat,by lia,by lia,?_⟩;rw[Int.toNat_of_nonneg x0,Int.toNat_of_nonneg y0,Int.add_comm x,Int.add_comm y];exact L'
 ·refine⟨y.toNat,x.toNat,by lia,by lia,?_⟩;rw[Int.toNat_of_nonneg x0,Int.toNat_of_nonneg y0,Int.add_comm x,Int.add_comm y];exact Line.symm S L'
theorem min_mem(M:List (Nat×Nat))(f:Nat×Nat->Nat):M≠[]->∃e∈M,∀g∈M,f e<=f g:=by
 induction M with
 |nil=>intro h;exact absurd rfl h
 |cons a M ih=>
  intro _;by_cases c:M=[]
  ·subst c;exact⟨a,.head _,λg hg=>by rcases List.mem_cons.mp hg with rfl|h;exact Nat.le_refl _;cases h⟩
  ·obtain⟨e,he,h⟩:=ih c;by_cases d:f a<=f e
   ·exact⟨a,.head _,λg hg=>by
     rcases List.mem_cons.mp hg with rfl|hg
     ·exact Nat.le_refl _
     ·exact Nat.le_trans d (h g hg)⟩
   ·exact⟨e,.tail _ he,λg hg=>by
     rcases List.mem_cons.mp hg with rfl|hg
     ·lia
     ·exact h g hg⟩
theorem Full.i5{r:List Pt}(S:Sm r){c:Int}{M:List (Nat×Nat)}(F:Full r c M)(h4:4<=r.length):∃i:Nat,(i,i+2)∈M:=by
 have Aw:M≠[]:=by
  obtain⟨s,l,l2,ln,L⟩:=S.diag h4;obtain⟨i,j,Cg,hj,L'⟩:=S.place (c:=c) L;rcases F.mx i j Cg hj L' with h|⟨f,h,_⟩
  ·exact List.ne_nil_of_mem h
  ·exact List.ne_nil_of_mem h
 obtain⟨⟨i,j⟩,he,mn⟩:=min_mem M (λe=>e.2-e.1) Aw;obtain⟨Cg,hj,L⟩:=F.ln _ he;dsimp only at Cg hj L;have hg:=Line.gap S.s.l3 Cg hj L;by_cases c2:j=i+2
 ·subst c2;exact⟨i,he⟩
 exfalso;have l2:2<=j-i:=by lia
 have ln:j-i+2<=r.length:=by lia
 have es:(i:Int)+c+((j-i:Nat):Int)=j+c:=by lia
 have L1:Line r (i+c) (i+c+((j-i:Nat):Int)):=by rw[es];exact L
 have Sq:=Jc S l2 ln L1;obtain⟨s,l,_,_,Lq⟩:=Sq.diag (by rw[sub_len];lia);obtain⟨a,b,EZ,hb,RS⟩:=Sq.place (c:=0) Lq;rw[Int.add_zero,Int.add_zero]at RS;have FV:=hb;rw[sub_len]at FV;have km:=Line.gap (c:=0) Sq.s.l3 EZ hb (by rw[Int.add_zero,Int.add_zero];exact RS);rw[sub_len]at km;have up:=Zi S l2 ln L1 (by lia) (by lia) (by lia) (by lia) RS;have u7:Line r (((i+a:Nat):Int)+c) (((i+b:Nat):Int)+c):=by
  rw[show((i+a:Nat):Int)+c=i+c+a by lia,show((i+b:Nat):Int)+c=i+c+b by lia];exact up
 rcases F.mx (i+a) (i+b) (by lia) (by lia) u7 with h|⟨f,hf,hx⟩
 ·have:=mn _ h;dsimp only at this;lia
 ·have n1:=F.nx _ he _ hf;have n2:=mn _ hf;have n3:=F.ln _ hf;unfold X at n1 hx;dsimp only at n1 n2 n3 hx;lia
def dn(i x:Nat):Nat:=if x<=i then x else x-1
def HJ(i:Nat)(e:Nat×Nat):Nat×Nat:=(dn i e.1,dn i e.2)
def Ex(i y:Nat):Nat:=if y<=i then y else y+1
section
variable{r:List Pt}(S:Sm r)(h4:4<=r.length){c:Int}{i:Nat}(hi:i+2<r.length)(L:Line r (i+c) (i+c+(2:Nat)))
include S h4 hi L
theorem O2{x:Nat}(hx:x<r.length)(n1:x≠i+1):∃p:Int,0<=p/\p<=(r.length-2:Nat)/\((dn i x:Int) + -((i:Int)+1)-p)%((sub r (i+c+(2:Nat)) (r.length-2)).length:Int)=0/\((i:Int)+c+(2:Nat)+p-(x+c))%(r.length:Int)=0/\((x<=i/\p=x+r.length-i-2)\/(i+2<=x/\p=x-i-2)):=by
 have hl:=ED r (i+c+(2:Nat)) (r.length-2);by_cases k:x<=i
 ·refine⟨x+r.length-i-2,by lia,by lia,?_,?_,.inl ⟨k,rfl⟩⟩
  ·rw[hl,show dn i x=x from if_pos k,show(x:Int) + -((i:Int)+1)-(x+r.length-i-2)=(((r.length-2:Nat):Int)+1)*(-1)by lia,Int.mul_emod_right]
  ·rw[show(i:Int)+c+(2:Nat)+(x+r.length-i-2)-(x+c)=r.length*1 by lia,Int.mul_emod_right]
 ·refine⟨x-i-2,by lia,by lia,?_,?_,.inr ⟨by lia,rfl⟩⟩
  ·have:dn i x=x-1:=if_neg k;rw[this,show((x-1:Nat):Int) + -((i:Int)+1)-(x-i-2)=0 by lia];rfl
  ·rw[show(i:Int)+c+(2:Nat)+(x-i-2)-(x+c)=0 by lia];rfl
theorem i6{x y:Nat}(T3:x<y)(hy:y<r.length)(nx:x≠i+1)(ny:y≠i+1)(ne:¬ (x=i/\y=i+2))(K:Line r (x+c) (y+c)):Line (sub r (i+c+(2:Nat)) (r.length-2)) (dn i x + -((i:Int)+1)) (dn i y + -((i:Int)+1)):=by
 have L':=QN S (by lia) (by lia) L;obtain⟨p,p0,p1,ep,fp,cp⟩:=O2 S h4 hi L (x:=x) (by lia) nx;obtain⟨q,q0,q1,eq,fq,cq⟩:=O2 S h4 hi L hy ny;have hg:=Line.gap S.s.l3 T3 hy K;refine(nK S (by lia) (by lia) L' p0 p1 q0 q1 (by lia) (K.congr (Ci fp) (Ci fq))).congr (Ci ep) (Ci eq)
theorem i7{x y:Nat}(hx:x<r.length)(hy:y<r.length)(nx:x≠i+1)(ny:y≠i+1)(K:Line (sub r (i+c+(2:Nat)) (r.length-2)) (dn i x + -((i:Int)+1)) (dn i y + -((i:Int)+1))):Line r (x+c) (y+c):=by
 have L':=QN S (by lia) (by lia) L;obtain⟨p,p0,p1,ep,fp,cp⟩:=O2 S h4 hi L hx nx;obtain⟨q,q0,q1,eq,fq,cq⟩:=O2 S h4 hi L hy ny;exact(Zi S (by lia) (by lia) L' p0 p1 q0 q1 (K.congr ep eq)).congr fp fq
end
theorem Xj{i:Nat}{e f:Nat×Nat}(e1:e.1≠i+1)(e2:e.2≠i+1)(f1:f.1≠i+1)(f2:f.2≠i+1):X (HJ i e) (HJ i f)↔X e f:=by
 unfold X HJ dn;dsimp only
 repeat' split
 all_goals lia
theorem Xm{i x y:Nat}(hx:x≠i+1)(hy:y≠i+1)(h:dn i x=dn i y):x=y:=by
 unfold dn at h
 (repeat' split at h)<;>lia
theorem Xn(i y:Nat):dn i (Ex i y)=y/\Ex i y≠i+1:=by
 unfold dn Ex;constructor
 ·(repeat' split)<;>lia
 ·split<;>lia
theorem Full.count:∀(n:Nat){r:List Pt}{c:Int}{M:List (Nat×Nat)},r.length=n->Sm r->Full r c M->M.length+3=n:=by
 intro n
 induction n with
 |zero=>intro r c M hn S F;have:=S.s.l3;lia
 |succ n ih=>
  intro r c M hn S F;have h3:=S.s.l3;by_cases c3:r.length=3
  ·cases M with
   |nil=>rw[List.length_nil];lia
   |cons e M=>
    obtain⟨a,b,k⟩:=F.ln e (.head _);have:=Line.gap h3 a b k;lia
  obtain⟨i,hm⟩:=F.i5 S (by lia);obtain⟨_,hi,L⟩:=F.ln _ hm;dsimp only at hi L;have L2:Line r (i+c) (i+c+(2:Nat)):=by
   rw[show(i:Int)+c+(2:Nat)=((i+2:Nat):Int)+c by lia];exact L
  have av:∀e∈M,e.1≠i+1/\e.2≠i+1:=λe he=>by
   obtain⟨a,b,k⟩:=F.ln e he;have g:=Line.gap h3 a b k;have x:=F.nx _ hm _ he;unfold X at x;dsimp only at x;lia
  have L':=QN S (by lia) (by lia) L2;have Sq:=Jc S (by lia) (by lia) L';have hl:(sub r (i+c+(2:Nat)) (r.length-2)).length=n:=by rw[sub_len];lia
  have me:∀{e},e∈M.erase (i,i+2)↔e≠(i,i+2)/\e∈M:=λ{e}=>F.nd.mem_erase_iff;have F':Full (sub r (i+c+(2:Nat)) (r.length-2)) (-((i:Int)+1)) ((M.erase (i,i+2)).map (HJ i)):=by
   refine⟨?_,?_,?_,?_⟩
   ·rw[List.Nodup,List.pairwise_map];refine(F.nd.erase (i,i+2)).imp_of_mem λ{a b} ha hb EZ h=>EZ ?_;obtain⟨a1,a2⟩:=av a (me.mp ha).2;obtain⟨b1,b2⟩:=av b (me.mp hb).2;unfold HJ at h;exact Prod.ext (Xm a1 b1 (congrArg Prod.fst h)) (Xm a2 b2 (congrArg Prod.snd h))
   ·intro e he;obtain⟨g,hg,rfl⟩:=List.mem_map.mp he;obtain⟨Aw,hg⟩:=me.mp hg;obtain⟨g1,g2⟩:=av g hg;obtain⟨a,b,k⟩:=F.ln g hg;refine⟨?_,?_,i6 S (by lia) (by lia) L2 a b g1 g2 (λz=>Aw (Prod.ext z.1 z.2)) k⟩
    ·unfold HJ dn;dsimp only;(repeat' split)<;>lia
    ·rw[hl];unfold HJ dn;dsimp only;split<;>lia
   ·intro e he f hf;obtain⟨g,hg,rfl⟩:=List.mem_map.mp he;obtain⟨g',NI,rfl⟩:=List.mem_map.mp hf;have hg:=(me.mp hg).2;have NI:=(me.mp NI).2;rw[Xj (av g hg).1 (av g hg).2 (av g' NI).1 (av g' NI).2];exact F.nx g hg g' NI
   ·intro y z l4 hz K;rw[hl]at hz;obtain⟨y1,y2⟩:=Xn i y;obtain⟨z1,z2⟩:=Xn i z;have gE:Ex i y<r.length:=by unfold Ex;split<;>lia
    have We:Ex i z<r.length:=by unfold Ex;split<;>lia
    have lt:Ex i y<Ex i z:=by unfold Ex;(repeat' split)<;>lia
    have K':=i7 S (by lia) (by lia) L2 gE We y2 z2 (by rw[y1,z1];exact K);have ne:(Ex i y,Ex i z)≠(i,i+2):=λw=>by
     have w1:=congrArg Prod.fst w;have w2:=congrArg Prod.snd w;dsimp only at w1 w2;have g:=Line.gap Sq.s.l3 l4 (by rw[hl];exact hz) K;rw[hl]at g;unfold Ex at w1 w2
     (repeat' split at w1)<;>(repeat' split at w2)<;>lia
    rcases F.mx _ _ lt We K' with h|⟨f,hf,hx⟩
    ·left;refine List.mem_map.mpr ⟨_,me.mpr ⟨ne,h⟩,?_⟩;unfold HJ;rw[y1,z1]
    ·right;obtain⟨f1,f2⟩:=av f hf;have fe:f≠(i,i+2):=λw=>by
      rw[w]at hx;unfold X at hx;dsimp only at hx;lia
     refine⟨HJ i f,List.mem_map.mpr ⟨f,me.mpr ⟨fe,hf⟩,rfl⟩,?_⟩;have:=(Xj (e:=(Ex i y,Ex i z)) (f:=f) y2 z2 f1 f2).mpr hx;unfold HJ at this ⊢;rw[y1,z1]at this;exact this
  have:=ih hl Sq F';rw[List.length_map,List.length_erase_of_mem hm]at this;have:=List.length_pos_of_mem hm;lia
theorem Rm.count{r:List Pt}(R:Rm r){M:List (Nat×Nat)}(nd:M.Nodup)(ln:∀e∈M,e.1<e.2/\e.2<r.length/\Line r e.1 e.2)(nx:∀e∈M,∀f∈M,¬ X e f) (mx:∀i j:Nat,i<j->j<r.length->Line r i j->(i,j)∈M\/∃f∈M,X (i,j) f):M.length+3=r.length:=by
 have h3:=R.l3;obtain⟨K,S⟩:=R.sm;have z:∀i:Nat,(i:Int)+0=i:=λi=>Int.add_zero _;have:=Full.count r.length (r:=r.map (lean K)) (c:=0) (M:=M) (by rw[List.length_map]) S ⟨nd,λe he=>?_,nx,λi j Cg hj L=>?_⟩
 ·exact this
 ·obtain⟨a,b,c⟩:=ln e he;rw[List.length_map,z,z,Zh (by lia)];exact⟨a,b,c⟩
 ·rw[List.length_map]at hj;rw[z,z,Zh (by lia)]at L;exact mx i j Cg hj L
def CH(e f:Nat×Nat):Bool:=(decide (e.1<f.1)&&(decide (f.1<e.2)&&decide (e.2<f.2)))||(decide (f.1<e.1)&&(decide (e.1<f.2)&&decide (f.2<e.2)))
theorem Oz(e f:Nat×Nat):CH e f=true↔X e f:=by
 unfold CH X;simp only[Bool.or_eq_true,Bool.and_eq_true,decide_eq_true_eq]
theorem gm(e f:Nat×Nat):CH e f=CH f e:=by
 unfold CH;exact Bool.or_comm _ _
def DJ(M:List (Nat×Nat))(e:Nat×Nat):List (Nat×Nat):=if M.any (CH e)=true then M else M ++ [e]
def FR(L:List (Nat×Nat)):List (Nat×Nat):=L.foldl DJ []
theorem gk(e:Nat×Nat):CH e e=false:=by
 unfold CH;simp
theorem PR:∀(L M:List (Nat×Nat)),(∀e∈M,∀f∈M,CH e f=false)->(∀e∈M,e∈L.foldl DJ M)/\(L.foldl DJ M).Sublist (M++L)/\(∀e∈L.foldl DJ M,∀f∈L.foldl DJ M,CH e f=false)/\(∀e∈L,e∈L.foldl DJ M\/∃f∈L.foldl DJ M,CH e f=true)
 |[],M,h=>⟨λe he=>he,by rw[List.append_nil];exact List.Sublist.refl _,h,λe he=>by cases he⟩
 |a::L,M,h=>by
  rw[List.foldl_cons];have hS:∀e∈DJ M a,∀f∈DJ M a,CH e f=false:=by
   unfold DJ;split
   ·exact h
   ·rename_i hn;have hn:∀f∈M,CH a f=false:=λf hf=>by
     cases k:CH a f
     ·rfl
     ·exact absurd (List.any_eq_true.mpr ⟨f,hf,k⟩) hn
    intro e he f hf;rcases List.mem_append.mp he with he|he<;>rcases List.mem_append.mp hf with hf|hf
    ·exact h e he f hf
    ·rw[List.mem_singleton.mp hf,gm];exact hn e he
    ·rw[List.mem_singleton.mp he];exact hn f hf
    ·rw[List.mem_singleton.mp he,List.mem_singleton.mp hf];exact gk a
  obtain⟨i1,i2,i3,i4⟩:=PR L (DJ M a) hS;have ZA:∀e∈M,e∈DJ M a:=λe he=>by
   unfold DJ;split
   ·exact he
   ·exact List.mem_append_left _ he
  refine⟨λe he=>i1 e (ZA e he),i2.trans ?_,i3,λe he=>?_⟩
  ·unfold DJ;split
   ·exact List.Sublist.append_left (List.sublist_cons_self a L) M
   ·rw[List.append_assoc];exact List.Sublist.refl _
  ·rcases List.mem_cons.mp he with rfl|he
   ·by_cases k:M.any (CH e)=true
    ·obtain⟨f,hf,hx⟩:=List.any_eq_true.mp k;exact .inr ⟨f,i1 f (ZA f hf),hx⟩
    ·refine .inl (i1 e ?_);unfold DJ;rw[if_neg k];exact List.mem_append_right _ (List.mem_singleton.mpr rfl)
   ·exact i4 e he
theorem j0(L:List (Nat×Nat)):(FR L).Sublist L:=(PR L [] λ_ h=>by cases h).2.1
theorem YX(L:List (Nat×Nat)):∀e∈FR L,∀f∈FR L,CH e f=false:=(PR L [] λ_ h=>by cases h).2.2.1
theorem jz(L:List (Nat×Nat)):∀e∈L,e∈FR L\/∃f∈FR L,CH e f=true:=(PR L [] λ_ h=>by cases h).2.2.2
end AJ
namespace L2.EV
open L2.PL
abbrev Pt:=AJ.Pt
def pv(p:Pt):PV:=.tup [.int p.1,.int p.2]
def AK(r:List Pt):List PV:=r.map pv
theorem Dx(r:List Pt):(AK r).length=r.length:=List.length_map ..
def Bd(n:Int)(p:Pt):Prop:=-n<=p.1/\p.1<=n/\-n<=p.2/\p.2<=n
theorem GV{i j:Int}(h : -1000000<=i/\i<=1000000):FH i j:=.inl ⟨by lia,by lia⟩
theorem E9(p:Pt):AM (.cl (pv p)) (.cl (.int 0))=some (.cl (.int p.1)):=rfl
theorem EA(p:Pt):AM (.cl (pv p)) (.cl (.int 1))=some (.cl (.int p.2)):=rfl
theorem T9(i j:Int):CP (.cl (.int i)) (.cl (.int j))=some (.cl (.bl (i==j))):=by
 simp[CP,RV.any,A1,PySem.SeqAt.shaped,PySem.PyData.canLay0,PySem.PyData.depth,PySem.PyData.eqv]
theorem Hc(i j:Int):C0 (.cl (.int i)) (.cl (.int j))=some (.cl (.bl (!(i==j)))):=by
 simp[C0,RV.any,A1,PySem.SeqAt.shaped,PySem.PyData.canLay0,PySem.PyData.depth,PySem.PyData.eqv]
theorem mU(i j:Bool):CP (.cl (.bl i)) (.cl (.bl j))=some (.cl (.bl (i==j))):=by
 simp[CP,RV.any,A1,PySem.SeqAt.shaped,PySem.PyData.canLay0,PySem.PyData.depth,PySem.PyData.eqv]
theorem ZS(i j:Bool):C0 (.cl (.bl i)) (.cl (.bl j))=some (.cl (.bl (!(i==j)))):=by
 simp[C0,RV.any,A1,PySem.SeqAt.shaped,PySem.PyData.canLay0,PySem.PyData.depth,PySem.PyData.eqv]
theorem FY(i j:Int):CM (.cl (.int i)) (.cl (.int j))=some (.cl (.bl (decide (i<j)))):=rfl
theorem Gq(i j:Int):Co (.cl (.int i)) (.cl (.int j))=some (.cl (.bl (decide (i<=j)))):=rfl
theorem EJ(i j:Int):Cn (.cl (.int i)) (.cl (.int j))=some (.cl (.bl (decide (j<i)))):=rfl
theorem FZ(i j:Int):Aj (.cl (.int i)) (.cl (.int j))=some (.cl (.int (i-j))):=rfl
theorem KY(i j:Int):Ac (.cl (.int i)) (.cl (.int j))=some (.cl (.int (i+j))):=rfl
theorem Gr{i j:Int}(h:FH i j):C7 (.cl (.int i)) (.cl (.int j))=some (.cl (.int (i*j))):=by simp[C7,kI,h]
theorem GA{i j:Int}(h:0<j):BI (.cl (.int i)) (.cl (.int j))=some (.cl (.int (i%j))):=by simp[BI,kI,h]
theorem mT{i j:Int}(h:0<j)(h2:j<1073741824):C6 (.cl (.int i)) (.cl (.int j))=some (.cl (.int (i / j))):=by simp[C6,kI,MN,h,h2]
theorem Lm(ps:List PV):Az [.cl (.lst ps)]=some (.cl (.int ps.length)):=rfl
theorem ZR(ps:List PV):Az [.fr ps]=some (.cl (.int ps.length)):=rfl
theorem mE(i j:Int):(if j<i then j else i)=min i j:=by lia
theorem mD(i j:Int):(if j>i then j else i)=max i j:=by lia
theorem Lo(i j:Int):JP [.cl (.int i),.cl (.int j)]=some (.cl (.int (min i j))):=by simp only[JP,mE]
theorem JO(i j:Int):FA [.cl (.int i),.cl (.int j)]=some (.cl (.int (max i j))):=by simp only[FA,mD]
def Dl(i:Int):Int:=if i<0 then -i else i
theorem Nc(i:Int):Dw [.cl (.int i)]=some (.cl (.int (Dl i))):=rfl
theorem rY(n:Nat):Kk 0 (n:Int)=(List.range n).map λk:Nat=>PV.int (k:Int):=by
 unfold Kk;rw[show((n:Int)-0).toNat=n by lia];apply List.map_congr_left;intro k _;rw[show(0:Int)+(k:Int)=k by lia]
theorem bY(i j:Int):Kk i j=(List.range (j-i).toNat).map λk:Nat=>PV.int (i+(k:Int)):=rfl
section
variable{α β:Type}{enc:α->PV}
theorem GY{g:GF}{t:BF}{fe:EF}{ρb:AZ}{c:α->Bool}{h:α->PV}:∀{xs:List α},(∀x∈xs,∃BW,g (enc x) ρb=some BW/\t BW=some (c x)/\(c x=true->∃r,fe BW=some r/\r.clean=some (h x)))->collect g t fe ρb (xs.map enc)=some ((xs.filter c).map h)
 |[],_=>rfl
 |x::xs,H=>by
  have ih:=GY (g:=g) (t:=t) (fe:=fe) (ρb:=ρb) (c:=c) (h:=h) (xs:=xs) λy hy=>H y (List.mem_cons_of_mem _ hy);obtain⟨BW,e1,e2,e3⟩:=H x List.mem_cons_self;rw[List.map_cons];unfold collect;rw[e1];dsimp only;rw[e2];cases hc:c x with
  |false=>
   dsimp only;rw[ih,List.filter_cons_of_neg (by simp[hc])]
  |true=>
   obtain⟨r,e4,e5⟩:=e3 hc;dsimp only;rw[e4];dsimp only;rw[e5,ih,List.filter_cons_of_pos hc,List.map_cons]
theorem Ij{g:GF}{fe:EF}{ρb:AZ}{h:α->PV}{xs:List α}(H:∀x∈xs,∃BW r,g (enc x) ρb=some BW/\fe BW=some r/\r.clean=some (h x)):collect g B6 fe ρb (xs.map enc)=some (xs.map h):=by
 have:=GY (enc:=enc) (g:=g) (t:=B6) (fe:=fe) (ρb:=ρb) (c:=λ_=>true) (h:=h) (xs:=xs) λx hx=>by
  obtain⟨BW,r,e1,e2,e3⟩:=H x hx;exact⟨BW,e1,rfl,λ_=>⟨r,e2,e3⟩⟩
 rw[this,List.filter_eq_self.mpr λ_ _=>rfl]
theorem Gv{gt:GF}{body:SF}{c:α->Bool}{r:RV}(I:AZ->Prop):∀{xs:List α}{ρ:AZ},I ρ->(∀x∈xs,∀ρ,I ρ->∃BW,gt (enc x) ρ=some BW/\(c x=true->body BW=some (.rt r))/\(c x=false->∃Cu,body BW=some (.nx Cu)/\I Cu))->(xs.any c=true->EB gt body (xs.map enc) ρ=some (.rt r))/\(xs.any c=false->∃ρ',EB gt body (xs.map enc) ρ=some (.nx ρ')/\I ρ')
 |[],ρ,hI,_=>⟨λh=>by simp at h,λ_=>⟨ρ,rfl,hI⟩⟩
 |x::xs,ρ,hI,H=>by
  obtain⟨BW,e1,h1,h2⟩:=H x List.mem_cons_self ρ hI;rw[List.map_cons,List.any_cons];unfold EB;rw[e1];dsimp only;cases hc:c x with
  |true=>
   rw[h1 hc];exact⟨λ_=>rfl,λh=>by simp at h⟩
  |false=>
   obtain⟨Cu,e2,j7⟩:=h2 hc;rw[e2,Bool.false_or];exact Gv I (xs:=xs) j7 λy hy=>H y (List.mem_cons_of_mem _ hy)
theorem UD{gt:GF}{body:SF}(f:β->α->β)(R:β->AZ->Prop):∀{xs:List α}{b:β}{ρ:AZ},R b ρ->(∀x∈xs,∀b ρ,R b ρ->∃BW Cu,gt (enc x) ρ=some BW/\body BW=some (.nx Cu)/\R (f b x) Cu)->∃ρ',EB gt body (xs.map enc) ρ=some (.nx ρ')/\R (xs.foldl f b) ρ'
 |[],b,ρ,hR,_=>⟨ρ,rfl,hR⟩
 |x::xs,b,ρ,hR,H=>by
  obtain⟨BW,Cu,e1,e2,h2⟩:=H x List.mem_cons_self b ρ hR;rw[List.map_cons,List.foldl_cons];unfold EB;rw[e1];dsimp only;rw[e2];exact UD f R (xs:=xs) h2 λy hy=>H y (List.mem_cons_of_mem _ hy)
end
theorem fX(r:List Pt)(i:Int)(h1 : -(r.length:Int)<=i)(h2:i<r.length):DD (AK r) i=some (pv (AJ.AA r i)):=by
 unfold DD Ha;rw[Dx];have hn:0<r.length:=by lia
 by_cases h0:0<=i
 ·rw[if_pos h0,if_pos h2];have hi:i.toNat<r.length:=by lia
  simp only[Option.bind_some,AK,List.getElem?_map];unfold AJ.AA;rw[Int.emod_eq_of_lt h0 h2,List.getElem?_eq_getElem hi];simp[List.getD,List.getElem?_eq_getElem hi]
 ·rw[if_neg h0,if_pos h1];have hi:(i+r.length).toNat<r.length:=by lia
  simp only[Option.bind_some,AK,List.getElem?_map];unfold AJ.AA;rw[<-Int.add_emod_right i r.length,Int.emod_eq_of_lt (by lia) (by lia),List.getElem?_eq_getElem hi];simp[List.getD,List.getElem?_eq_getElem hi]
theorem DK(r:List Pt)(i:Int)(h1 : -(r.length:Int)<=i)(h2:i<r.length):AM (.cl (.lst (AK r))) (.cl (.int i))=some (.cl (pv (AJ.AA r i))):=by
 show(DD (AK r) i).map _=_;rw[fX r i h1 h2];rfl
theorem Ol(bs:List Bool):HI (bs.map PV.bl)=some bs:=by
 induction bs with
 |nil=>rfl
 |cons b bs ih=>rw[List.map_cons,HI,ih];rfl
theorem mK(bs:List Int):E8 (bs.map PV.int)=some bs:=by
 induction bs with
 |nil=>rfl
 |cons b bs ih=>rw[List.map_cons,E8,ih];rfl
open L2.PL L2.K
open AJ (AE As BZ AA M nb)
theorem Dt{n:Int}{r:List Pt}(hn:0<=n)(h:∀p∈r,Bd n p)(i:Int):Bd n (AA r i):=by
 unfold AJ.AA;rw[List.getD];cases e:r[(i%(r.length:Int)).toNat]? with
 |none=>exact⟨by simp;lia,by simp;lia,by simp;lia,by simp;lia⟩
 |some p=>exact h p (List.mem_of_getElem? e)
theorem CT{N n:Nat}{g:SF}{ps:List PV}{r:RV}(h:ps.length=n)(e:g (BX N ps)=some (.rt r)):denote N n g ps=some r:=by
 unfold denote;rw[if_pos h,e];rfl
theorem Df{f:EF}{ρ:AZ}{p:PV}(e:f ρ=some (.cl p)):Al f ρ=some (.rt (.cl p)):=by unfold Al;rw[e]
theorem Uj{f:EF}{ρ:AZ}{p:List PV}(e:f ρ=some (.fr p)):Al f ρ=some (.rt (.fr p)):=by unfold Al;rw[e]
theorem DX{k:List RV->Option RV}{g:AF}{ρ:AZ}{rs:List RV}{z:RV}(e:g ρ=some rs)(h:k rs=some z):fB k g ρ=some z:=by unfold fB;rw[e];exact h
theorem AO{f:EF}{g:AF}{ρ:AZ}{x:RV}{xs:List RV}(e:f ρ=some x)(h:g ρ=some xs):AD f g ρ=some (x::xs):=by unfold AD;rw[e,h]
theorem Af(ρ:AZ):AI ρ=some []:=rfl
theorem AR{k:RV->RV->Option RV}{fa fb:EF}{ρ:AZ}{x y z:RV}(ha:fa ρ=some x)(hb:fb ρ=some y)(h:k x y=some z):f2 k fa fb ρ=some z:=by unfold f2;rw[ha];dsimp only;rw[hb];exact h
theorem BY{F:List PV->Option RV}{g:AF}{ρ:AZ}{rs:List RV}{ps:List PV}{z:RV}(e:g ρ=some rs)(c:DW rs=some ps)(h:F ps=some z):AU F g ρ=some z:=by unfold AU;rw[e];dsimp only;rw[c];exact h
theorem LV{f g:EF}{ρ:AZ}{a b:Bool}(ha:f ρ=some (.cl (.bl a)))(hb:a=true->g ρ=some (.cl (.bl b))):De f g ρ=some (.cl (.bl (a&&b))):=by
 unfold De;rw[ha];cases a
 ·rfl
 ·exact hb rfl
theorem Sx{f g:EF}{ρ:AZ}{a b:Bool}(ha:f ρ=some (.cl (.bl a)))(hb:a=false->g ρ=some (.cl (.bl b))):Ek f g ρ=some (.cl (.bl (a||b))):=by
 unfold Ek;rw[ha];cases a
 ·exact hb rfl
 ·rfl
theorem BG{f:EF}{ρ:AZ}{a:Bool}(ha:f ρ=some (.cl (.bl a))):AS f ρ=some a:=by unfold AS;rw[ha]
theorem Ej{f:BF}{ρ:AZ}{a:Bool}(ha:f ρ=some a):CA f ρ=some (!a):=by unfold CA;rw[ha];rfl
theorem Ir{f g:BF}{ρ:AZ}{a b:Bool}(ha:f ρ=some a)(hb:a=true->g ρ=some b):Cd f g ρ=some (a&&b):=by
 unfold Cd;rw[ha];cases a
 ·rfl
 ·exact hb rfl
theorem F0{f g:BF}{ρ:AZ}{a b:Bool}(ha:f ρ=some a)(hb:a=false->g ρ=some b):CU f g ρ=some (a||b):=by
 unfold CU;rw[ha];cases a
 ·exact hb rfl
 ·rfl
theorem sq{g h:SF}{ρ ρ':AZ}(e:g ρ=some (.nx ρ')):AQ g h ρ=h ρ':=by unfold AQ;rw[e]
theorem D2{g h:SF}{ρ:AZ}{r:RV}(e:g ρ=some (.rt r)):AQ g h ρ=some (.rt r):=by unfold AQ;rw[e]
theorem Bc{i:Nat}{f:EF}{ρ:AZ}{r:RV}{p:PV}(e:f ρ=some r)(c:r.clean=some p):Ai i f ρ=some (.nx (ρ.set i (some (.im p)))):=by unfold Ai;rw[e];dsimp only;rw[c]
theorem set_own{i:Nat}{f:EF}{ρ:AZ}{ps:List PV}(e:f ρ=some (.fr ps)):E4 i f ρ=some (.nx (ρ.set i (some (.own ps)))):=by unfold E4;rw[e]
theorem CZ{t:BF}{g h:SF}{ρ:AZ}(e:t ρ=some true):Ax t g h ρ=g ρ:=by unfold Ax;rw[e]
theorem Bw{t:BF}{g h:SF}{ρ:AZ}(e:t ρ=some false):Ax t g h ρ=h ρ:=by unfold Ax;rw[e]
theorem DR{its:IF}{gt:GF}{body:SF}{ρ:AZ}{xs:List PV}(e:its ρ=some xs):DI its gt body ρ=EB gt body xs ρ:=by unfold DI;rw[e]
theorem K1{a b c:Pt}(ha:Bd 1000 a)(hb:Bd 1000 b):D3 [pv a,pv b,pv c]=some (.cl (.int (AE a b c))):=by
 have h1:FH (b.1-a.1) (c.2-a.2):=GV (by unfold Bd at *;lia);have h2:FH (b.2-a.2) (c.1-a.1):=GV (by unfold Bd at *;lia);simp[D3,denote,Xg,BX,Al,f2,AB,fC,E9,EA,Aj,kI,C7,h1,h2,Out.val,AE]
def pw(a b:Pt):PV:=.tup [pv a,pv b]
theorem JM(a b:Pt):AM (.cl (pw a b)) (.cl (.int 0))=some (.cl (pv a)):=rfl
theorem JN(a b:Pt):AM (.cl (pw a b)) (.cl (.int 1))=some (.cl (pv b)):=rfl
theorem MT{a b c:Pt}(ha:Bd 1000 a)(hb:Bd 1000 b):Fo [pv c,pw a b]=some (.cl (.bl (As a b c))):=by
 have e1:=K1 (c:=c) ha hb;have e2:As a b c=(decide (AE a b c=0)&&((decide (min a.1 b.1<=c.1)&&decide (c.1<=max a.1 b.1))&&(decide (min a.2 b.2<=c.2)&&decide (c.2<=max a.2 b.2)))):=by
  rw[As,Bool.decide_and,Bool.decide_and]
 rw[e2];have e3:(!(AE a b c==0)) = !(decide (AE a b c=0)):=rfl;have e4:=Gq (min a.1 b.1) c.1;have e5:=Gq c.1 (max a.1 b.1);have e6:=Gq (min a.2 b.2) c.2;have e7:=Gq c.2 (max a.2 b.2);have e8:=Hc (AE a b c) 0;rw[e3]at e8;generalize decide (min a.1 b.1<=c.1)=b1 at *
 generalize decide (c.1<=max a.1 b.1)=b2 at *
 generalize decide (min a.2 b.2<=c.2)=b3 at *
 generalize decide (c.2<=max a.2 b.2)=b4 at *
 generalize decide (AE a b c=0)=b5 at *
 cases b5
 ·simp only[Fo,denote,Sk,BX,AQ,Ai,Ax,Al,f2,AB,fC,AS,AU,AD,AI,DW,EI,fB,De,Ek,Cd,Out.val,RV.clean,
  List.length_cons,List.length_nil,List.map_cons,List.map_nil,List.cons_append,List.nil_append,List.replicate,List.getElem?_cons_zero,List.getElem?_cons_succ,List.set_cons_zero,List.set_cons_succ,Option.bind_some,
  E9,EA,JM,JN,A8,Lo,JO,FY,EJ,if_true,Nat.reduceAdd,Nat.reduceSub,e1,e8,Bool.not_false,Bool.false_and]
 ·cases b1<;>cases b2<;>cases b3<;>cases b4<;>simp only[Fo,denote,Sk,BX,AQ,Ai,Ax,Al,f2,AB,fC,AS,AU,AD,AI,DW,EI,fB,De,Ek,Cd,Out.val,RV.clean,
  List.length_cons,List.length_nil,List.map_cons,List.map_nil,List.cons_append,List.nil_append,List.replicate,List.getElem?_cons_zero,List.getElem?_cons_succ,List.set_cons_zero,List.set_cons_succ,Option.bind_some,
  E9,EA,JM,JN,A8,Lo,JO,FY,EJ,if_true,Nat.reduceAdd,Nat.reduceSub,e1,e8,e4,e5,e6,e7,Bool.not_true,Bool.true_and,Bool.false_and,Bool.and_false,Bool.and_true]
theorem WB{a b c d:Pt}(ha:Bd 1000 a)(hb:Bd 1000 b):K0 [pw a b,pw c d]=some (.cl (.bl (AJ.parts a b c d))):=by
 have e1:=K1 (c:=c) ha hb;have e2:=K1 (c:=d) ha hb;have e3:=FY (AE a b c) 0;have e4:=EJ (AE a b c) 0;have e5:=FY (AE a b d) 0;have e6:=EJ (AE a b d) 0;unfold AJ.parts;generalize AE a b c=x at *
 generalize AE a b d=y at *
 generalize decide (x<0)=b1 at *
 have g4:decide (x>0)=decide (0<x):=rfl;have g6:decide (y>0)=decide (0<y):=rfl;rw[g4,g6];generalize decide (0<x)=b2 at *
 generalize decide (y<0)=b3 at *
 generalize decide (0<y)=b4 at *
 cases b1<;>cases b2<;>cases b3<;>cases b4<;>simp only[K0,denote,Xc,BX,AQ,Ai,Ax,Al,f2,AB,fC,AS,AU,AD,AI,DW,EI,fB,De,Ek,Cd,Out.val,RV.clean,List.length_cons,List.length_nil,List.map_cons,List.map_nil,List.cons_append,List.nil_append,List.replicate,List.getElem?_cons_zero,List.getElem?_cons_succ,List.set_cons_zero,List.set_cons_succ,Option.bind_some,E9,EA,JM,JN,Hc,A8,Lo,JO,Gq,if_true,Nat.reduceAdd,Nat.reduceSub,e1,e2,e3,e4,e5,e6,Bool.true_and,Bool.false_and,Bool.and_false,Bool.and_true,Bool.or_false,Bool.or_true,Bool.false_or,Bool.true_or]
theorem V7{a b c d:Pt}(ha:Bd 1000 a)(hb:Bd 1000 b)(hc:Bd 1000 c)(hd:Bd 1000 d):GP [pw a b,pw c d]=some (.cl (.bl (BZ a b c d))):=by
 have e1:=WB (c:=c) (d:=d) ha hb;have e2:=WB (c:=a) (d:=b) hc hd;have e3:=MT (c:=c) ha hb;have e4:=MT (c:=d) ha hb;have e5:=MT (c:=a) hc hd;have e6:=MT (c:=b) hc hd;unfold BZ;generalize AJ.parts a b c d=b1 at *
 generalize AJ.parts c d a b=b2 at *
 generalize As a b c=b3 at *
 generalize As a b d=b4 at *
 generalize As c d a=b5 at *
 generalize As c d b=b6 at *
 cases b1<;>cases b2<;>cases b3<;>cases b4<;>cases b5<;>cases b6<;>simp only[GP,denote,Xa,BX,AQ,Ai,Ax,Al,f2,AB,fC,AS,AU,AD,AI,DW,EI,fB,De,Ek,Cd,Out.val,RV.clean,List.length_cons,List.length_nil,List.map_cons,List.map_nil,List.cons_append,List.nil_append,List.replicate,List.getElem?_cons_zero,List.getElem?_cons_succ,List.set_cons_zero,List.set_cons_succ,Option.bind_some,E9,EA,JM,JN,Hc,A8,Lo,JO,Gq,FY,EJ,if_true,Nat.reduceAdd,Nat.reduceSub,e1,e2,e3,e4,e5,e6,Bool.true_and,Bool.false_and,Bool.and_false,Bool.and_true,Bool.or_false,Bool.or_true,Bool.false_or,Bool.true_or]
def Ea(p:Pt):Bool:=decide (Dl p.1<=100)&&decide (Dl p.2<=100)
theorem UN{p:Pt}:Ea p=true↔Bd 100 p:=by
 have a1:∀i:Int,Dl i<=100↔(-100<=i/\i<=100):=λi=>by unfold Dl;split<;>lia
 simp only[Ea,Bd,Bool.and_eq_true,decide_eq_true_eq,a1];exact⟨λh=>⟨h.1.1,h.1.2,h.2.1,h.2.2⟩,λh=>⟨⟨h.1,h.2.1⟩,h.2.2.1,h.2.2.2⟩⟩
theorem dq{r:List Pt}(hl:r.length<=1000):MP [.lst (AK r)]=some (.cl (.bl (r.all Ea))):=by
 have hc:collect (Ag 0) B6 (De (f2 Co (fB Dw (AD (f2 AM (AB 0) (fC (.int 0))) AI)) (fC (.int 100))) (f2 Co (fB Dw (AD (f2 AM (AB 0) (fC (.int 1))) AI)) (fC (.int 100)))) (B8 1 [] [some (.im (.lst (AK r)))]) (AK r)=some ((r.map Ea).map PV.bl):=by
  rw[AK,List.map_map];refine Ij (h:=PV.bl∘Ea) λp _=>⟨_,.cl (.bl (Ea p)),rfl,?_,rfl⟩;simp only[B8,De,f2,fB,AD,AI,AB,fC,List.replicate,List.map_nil,List.cons_append,List.nil_append,List.set_cons_zero,List.getElem?_cons_zero,E9,EA,Nc,Gq,List.append_nil];unfold Ea;cases decide (Dl p.1<=100)<;>rfl
 simp only[MP,denote,W5,BX,Al,fB,AD,AI,Bt,Bp,AB,List.length_cons,List.length_nil,List.map_cons,List.map_nil,List.cons_append,List.nil_append,List.replicate,List.getElem?_cons_zero,RV.list,if_true,Nat.reduceAdd,Nat.reduceSub,Bool.false_eq_true,if_false];rw[if_pos (by rw[Dx];exact hl),hc];simp only[Option.map_some,F9,RV.list,Option.bind_some,Ol,Out.val];rw[List.all_map];rfl
def Hr(r:List Pt):Bool:=(List.range r.length).all λk=>!(AE (AA r ((k:Int)-2)) (AA r ((k:Int)-1)) (AA r k)==0)
theorem Wf{n:Nat}(h:n<=1000):IV (n:Int):=⟨by lia,by lia⟩
theorem EY{g:AF}{ρ:AZ}{n:Nat}(e:g ρ=some [.cl (.int (n:Int))])(h:n<=1000):CI g ρ=some ((List.range n).map λk:Nat=>PV.int (k:Int)):=by
 unfold CI;rw[e];dsimp only;rw[if_pos (Wf h),rY]
theorem EX{its:IF}{own:Nat}{cap:List Nat}{g:GF}{t:BF}{fe:EF}{ρ:AZ}{xs ys:List PV}(e:its ρ=some xs)(h:xs.length<=1000)(e2:collect g t fe (B8 own cap ρ) xs=some ys):Bt its own cap g t fe ρ=some (.fr ys):=by
 unfold Bt;rw[e];dsimp only;rw[if_pos h,e2]
 rfl
theorem dm{r:List Pt}(hl:r.length<=1000)(h2:2<=r.length)(hb:∀p∈r,Bd 1000 p):OS [.lst (AK r)]=some (.cl (.bl (Hr r))):=by
 have hc:collect (Ag 0) B6 (f2 C0 (AU D3 (AD (f2 AM (AB 1) (f2 Aj (AB 0) (fC (.int 2)))) (AD (f2 AM (AB 1) (f2 Aj (AB 0) (fC (.int 1)))) (AD (f2 AM (AB 1) (AB 0)) AI)))) (fC (.int 0))) (B8 1 [0] [some (.im (.lst (AK r)))]) ((List.range r.length).map λk:Nat=>PV.int (k:Int)) =
  some (((List.range r.length).map λk:Nat=>!(AE (AA r ((k:Int)-2)) (AA r ((k:Int)-1)) (AA r k)==0)).map PV.bl):=by
  rw[List.map_map];refine Ij (h:=PV.bl∘λk:Nat=>!(AE (AA r ((k:Int)-2)) (AA r ((k:Int)-1)) (AA r k)==0)) λk hk=>⟨_,.cl (.bl (!(AE (AA r ((k:Int)-2)) (AA r ((k:Int)-1)) (AA r k)==0))),rfl,?_,rfl⟩;have CC:=List.mem_range.mp hk;simp only[B8,f2,AU,AD,AI,AB,fC,DW,RV.clean,List.replicate,List.map_cons,List.map_nil,List.cons_append,List.nil_append,List.set_cons_zero,List.getElem?_cons_zero,List.getElem?_cons_succ,Option.join_some,FZ,DK r ((k:Int)-2) (by lia) (by lia),DK r ((k:Int)-1) (by lia) (by lia),DK r (k:Int) (by lia) (by lia),K1 (Dt (by lia) hb _) (Dt (by lia) hb _),Hc]
 have e:=EX (EY (g:=AD (fB Az (AD (AB 0) AI)) AI) (ρ:=[some (.im (.lst (AK r)))]) (n:=r.length) (by rw[<-Dx];rfl) hl) (by simpa using hl) hc;refine CT rfl (Df (DX (AO e (Af _)) ?_));simp only[F9,RV.list,Option.bind_some,Ol,Option.map_some,List.all_map]
 rfl
def Bk(r:List Pt):List (Pt×Pt):=(List.range r.length).map λk:Nat=>(AA r k,AA r ((k:Int)+1))
def BS(ws:List (Pt×Pt)):List PV:=ws.map λw=>pw w.1 w.2
theorem Od{r:List Pt}(hl:r.length<=1000)(h1:0<r.length):FJ [.lst (AK r)]=some (.fr (BS (Bk r))):=by
 have hc:collect (Ag 0) B6 (A7 (AD (f2 AM (AB 1) (AB 0)) (AD (f2 AM (AB 1) (f2 BI (f2 Ac (AB 0) (fC (.int 1))) (fB Az (AD (AB 1) AI)))) AI))) (B8 1 [0] [some (.im (.lst (AK r)))]) ((List.range r.length).map λk:Nat=>PV.int (k:Int))=some (BS (Bk r)):=by
  unfold BS Bk;rw[List.map_map];refine Ij (h:=(λw:Pt×Pt=>pw w.1 w.2)∘λk:Nat=>(AA r k,AA r ((k:Int)+1))) λk hk=>⟨_,.cl (pw (AA r k) (AA r ((k:Int)+1))),rfl,?_,rfl⟩;have CC:=List.mem_range.mp hk;have hm:AA r (((k:Int)+1)%(r.length:Int))=AA r ((k:Int)+1):=by
   unfold AJ.AA;rw[Int.emod_emod_of_dvd _ (Int.dvd_refl _)]
  simp only[B8,f2,A7,AD,AI,AB,fC,fB,DW,RV.clean,List.replicate,List.map_cons,List.map_nil,List.cons_append,List.nil_append,List.set_cons_zero,List.getElem?_cons_zero,List.getElem?_cons_succ,Option.join_some,KY,Lm,Dx,GA (i:=(k:Int)+1) (j:=(r.length:Int)) (by lia),DK r (k:Int) (by lia) (by lia),DK r (((k:Int)+1)%(r.length:Int)) (by have:=Int.emod_nonneg ((k:Int)+1) (b:=(r.length:Int)) (by lia);lia) (Int.emod_lt_of_pos _ (by lia)),List.length_cons,List.length_nil,hm]
  rfl
 have e:=EX (EY (g:=AD (fB Az (AD (AB 0) AI)) AI) (ρ:=[some (.im (.lst (AK r)))]) (n:=r.length) (by rw[<-Dx];rfl) hl) (by simpa using hl) hc;exact CT rfl (Uj e)
theorem mW(i a b:Int):Bl false (.cl (.int i)) (.cl (.tup [.int a,.int b]))=some (.cl (.bl (i==a||i==b))):=by
 simp only[Bl,RV.seq,E8,Option.map_some,List.any_cons,List.any_nil,Bool.or_false,Bool.false_eq_true,if_false];rw[Bool.beq_comm (a:=a),Bool.beq_comm (a:=b)]
theorem V8{n i j:Int}(hn:0<n):GN [.int n,.int i,.int j]=some (.cl (.bl (nb n (j-i)))):=by
 simp only[GN,denote,W6,BX,Al,f2,AB,fC,A7,AD,AI,DW,RV.clean,Out.val,List.length_cons,List.length_nil,List.map_cons,List.map_nil,List.cons_append,List.nil_append,List.replicate,List.getElem?_cons_zero,List.getElem?_cons_succ,Option.bind_some,FZ,GA hn,mW,if_true,Nat.reduceAdd,Nat.reduceSub,Nat.reduceLeDiff,nb]
def Vp(r:List Pt)(k:Int):PV:=pw (AA r k) (AA r (k+1))
theorem dQ(r:List Pt)(k:Nat)(h:k<r.length):AM (.cl (.lst (BS (Bk r)))) (.cl (.int (k:Int)))=some (.cl (Vp r k)):=by
 show(DD _ _).map _=_;have:DD (BS (Bk r)) (k:Int)=some (Vp r k):=by
  unfold DD Ha BS Bk;simp[h,Vp]
 rw[this];rfl
def Js(r:List Pt):Bool:=!((List.range r.length).any λk=>(List.range (r.length-(k+1))).any λd=>!(nb r.length (((k:Int)+1+d)-k))&&M r k ((k:Int)+1+d))
theorem dr{r:List Pt}(hl:r.length<=1000)(h1:0<r.length)(hb:∀p∈r,Bd 1000 p):Oc [.lst (AK r)]=some (.cl (.bl (Js r))):=by
 have FX:(BS (Bk r)).length=r.length:=by simp[BS,Bk]
 refine CT rfl ?_;unfold Xh;rw[sq (Bc (BY (AO (x:=.cl (.lst (AK r))) rfl (Af _)) rfl (Od hl h1)) rfl)];show AQ _ _ [some (.im (.lst (AK r))),some (.im (.lst (BS (Bk r)))),none,none]=_;have I0:∀a b:Option SV,CI (AD (fB Az (AD (AB 1) AI)) AI) [some (.im (.lst (AK r))),some (.im (.lst (BS (Bk r)))),a,b]=some ((List.range r.length).map λk:Nat=>PV.int (k:Int)):=λa b=>EY (by rw[<-FX];rfl) hl;have H:=Gv (enc:=λk:Nat=>PV.int (k:Int)) (gt:=Ag 2) (body:=(DI (El (AD (f2 Ac (AB 2) (fC (.int 1))) (AD (fB Az (AD (AB 1) AI)) AI))) (Ag 3) (Ax (Cd (CA (AS (AU GN (AD (fB Az (AD (AB 1) AI)) (AD (AB 2) (AD (AB 3) AI)))))) (AS (AU GP (AD (f2 AM (AB 1) (AB 2)) (AD (f2 AM (AB 1) (AB 3)) AI))))) (Al (fC (.bl false))) A8)))
  (c:=λk=>(List.range (r.length-(k+1))).any λd=>!(nb r.length (((k:Int)+1+d)-k))&&M r k ((k:Int)+1+d)) (r:=.cl (.bl false))
  (λρ=>∃a b,ρ=[some (.im (.lst (AK r))),some (.im (.lst (BS (Bk r)))),a,b]) (xs:=List.range r.length) ⟨none,none,rfl⟩ (by
  rintro k hk ρ ⟨a,b,rfl⟩;have CC:=List.mem_range.mp hk;refine⟨_,rfl,?_⟩;have hr:El (AD (f2 Ac (AB 2) (fC (.int 1))) (AD (fB Az (AD (AB 1) AI)) AI)) [some (.im (.lst (AK r))),some (.im (.lst (BS (Bk r)))),some (.im (.int k)),b]=some ((List.range (r.length-(k+1))).map λd:Nat=>PV.int ((k:Int)+1+d)):=by
   have e1:AD (f2 Ac (AB 2) (fC (.int 1))) (AD (fB Az (AD (AB 1) AI)) AI) [some (.im (.lst (AK r))),some (.im (.lst (BS (Bk r)))),some (.im (.int k)),b]=some [.cl (.int ((k:Int)+1)),.cl (.int (r.length:Int))]:=by
    rw[<-FX];rfl
   unfold El;rw[e1];dsimp only;have c1:IV ((k:Int)+1):=⟨by lia,by lia⟩;rw[if_pos ⟨c1,Wf hl⟩,bY]
   congr 3
   lia
  have H2:=Gv (enc:=λd:Nat=>PV.int ((k:Int)+1+d)) (gt:=Ag 3) (body:=(Ax (Cd (CA (AS (AU GN (AD (fB Az (AD (AB 1) AI)) (AD (AB 2) (AD (AB 3) AI)))))) (AS (AU GP (AD (f2 AM (AB 1) (AB 2)) (AD (f2 AM (AB 1) (AB 3)) AI))))) (Al (fC (.bl false))) A8))
   (c:=λd=>!(nb r.length (((k:Int)+1+d)-k))&&M r k ((k:Int)+1+d)) (r:=.cl (.bl false))
   (λρ=>∃b,ρ=[some (.im (.lst (AK r))),some (.im (.lst (BS (Bk r)))),some (.im (.int k)),b]) (xs:=List.range (r.length-(k+1))) ⟨b,rfl⟩ (by
   rintro d hd ρ ⟨b,rfl⟩;have IC:=List.mem_range.mp hd;refine⟨_,rfl,?_⟩;have et:(Cd (CA (AS (AU GN (AD (fB Az (AD (AB 1) AI)) (AD (AB 2) (AD (AB 3) AI)))))) (AS (AU GP (AD (f2 AM (AB 1) (AB 2)) (AD (f2 AM (AB 1) (AB 3)) AI))))) [some (.im (.lst (AK r))),some (.im (.lst (BS (Bk r)))),some (.im (.int k)),some (.im (.int ((k:Int)+1+d)))]=some (!(nb r.length (((k:Int)+1+d)-k))&&M r k ((k:Int)+1+d)):=by
    refine Ir (Ej (BG (BY (rs:=[.cl (.int (r.length:Int)),.cl (.int k),.cl (.int ((k:Int)+1+d))]) (by rw[<-FX];rfl) rfl (V8 (by lia))))) λ_=>?_;have g1:=dQ r k CC;have g2:=dQ r (k+1+d) (by lia);rw[show((k+1+d:Nat):Int)=(k:Int)+1+d by lia]at g2;refine BG (BY (AO (AR (x:=.cl (.lst (BS (Bk r)))) (y:=.cl (.int k)) rfl rfl g1) (AO (AR (x:=.cl (.lst (BS (Bk r)))) (y:=.cl (.int ((k:Int)+1+d))) rfl rfl g2) (Af _))) rfl ?_);exact V7 (Dt (by lia) hb _) (Dt (by lia) hb _) (Dt (by lia) hb _) (Dt (by lia) hb _)
   refine⟨λh=>?_,λh=>⟨_,?_,some (.im (.int ((k:Int)+1+d))),rfl⟩⟩
   ·show Ax _ _ _ [some (.im (.lst (AK r))),some (.im (.lst (BS (Bk r)))),some (.im (.int k)),some (.im (.int ((k:Int)+1+d)))]=_;rw[h]at et;rw[CZ et];rfl
   ·show Ax _ _ _ [some (.im (.lst (AK r))),some (.im (.lst (BS (Bk r)))),some (.im (.int k)),some (.im (.int ((k:Int)+1+d)))]=_;rw[h]at et;rw[Bw et];rfl)
  refine⟨λh=>?_,λh=>?_⟩
  ·exact(DR hr).trans (H2.1 h)
  ·obtain⟨ρ',e,b',rfl⟩:=H2.2 h;exact⟨_,(DR hr).trans e,_,_,rfl⟩)
 unfold Js;cases ha:(List.range r.length).any λk=>(List.range (r.length-(k+1))).any λd=>!(nb r.length (((k:Int)+1+d)-k))&&M r k ((k:Int)+1+d)with
 |true=>exact D2 ((DR (I0 none none)).trans (H.1 ha))
 |false=>
  obtain⟨ρ',e,a,b,rfl⟩:=H.2 ha;rw[sq ((DR (I0 none none)).trans e)];rfl
theorem cW(f:Int->Int):∀n:Nat,((List.range n).map λk:Nat=>f k).sum=AJ.AW f n
 |0=>rfl
 |n+1=>by
  rw[List.range_succ,List.map_append,List.sum_append,cW f n];simp[AJ.AW]
theorem Hz{f:EF}{ρ:AZ}{r:RV}{ps:List PV}(e:f ρ=some r)(h:r.list=some ps):Bp false f ρ=some ps:=by
 unfold Bp;rw[e];exact h
theorem fh:Bd 1000 (0,0):=by unfold Bd;lia
theorem t1{r:List Pt}(hb:∀p∈r,Bd 1000 p)(k:Nat):(AU D3 (AD (fC (.tup [(.int 0),(.int 0)])) (AD (f2 AM (AB 0) (fC (.int 0))) (AD (f2 AM (AB 0) (fC (.int 1))) AI)))) [some (.im (pw (AA r k) (AA r ((k:Int)+1))))]=some (.cl (.int (AJ.Br (AA r k) (AA r ((k:Int)+1))))):=by
 refine BY (ps:=[pv (0,0),pv (AA r k),pv (AA r ((k:Int)+1))]) (AO (x:=.cl (pv (0,0))) rfl (AO (AR (x:=.cl (pw (AA r k) (AA r ((k:Int)+1)))) rfl rfl (JM _ _)) (AO (AR (x:=.cl (pw (AA r k) (AA r ((k:Int)+1)))) rfl rfl (JN _ _)) (Af _)))) rfl ?_;rw[K1 fh (Dt (by lia) hb _)];have:AE (0,0) (AA r k) (AA r ((k:Int)+1))=AJ.Br (AA r k) (AA r ((k:Int)+1)):=by simp[AE,AJ.Br]
 rw[this]
theorem t2{r:List Pt}(hb:∀p∈r,Bd 1000 p):collect (Ag 0) B6 (AU D3 (AD (fC (.tup [(.int 0),(.int 0)])) (AD (f2 AM (AB 0) (fC (.int 0))) (AD (f2 AM (AB 0) (fC (.int 1))) AI)))) (B8 1 [] [some (.im (.lst (AK r)))]) (BS (Bk r)) = some (((List.range r.length).map λk:Nat=>AJ.Br (AA r k) (AA r ((k:Int)+1))).map PV.int):=by
 unfold BS Bk;rw[List.map_map,List.map_map];exact Ij (h:=PV.int∘λk:Nat=>AJ.Br (AA r k) (AA r ((k:Int)+1))) λk hk=>⟨_,.cl (.int (AJ.Br (AA r k) (AA r ((k:Int)+1)))),rfl,t1 hb k,rfl⟩
theorem t3{r:List Pt}(hl:r.length<=1000)(h1:0<r.length):Bp false (AU FJ (AD (AB 0) AI)) [some (.im (.lst (AK r)))]=some (BS (Bk r)):=by
 exact Hz (BY (AO (x:=.cl (.lst (AK r))) rfl (Af _)) rfl (Od hl h1)) rfl
theorem dt{r:List Pt}(hl:r.length<=1000)(h1:0<r.length)(hb:∀p∈r,Bd 1000 p):OT [.lst (AK r)]=some (.cl (.int (AJ.Ds r))):=by
 have FX:(BS (Bk r)).length=r.length:=by simp[BS,Bk]
 have e:=EX (its:=Bp false (AU FJ (AD (AB 0) AI))) (ρ:=[some (.im (.lst (AK r)))]) (xs:=BS (Bk r)) (t3 hl h1) (by lia) (t2 hb);refine CT rfl (Df (DX (AO e (Af _)) ?_));simp only[Pz,RV.list,Option.bind_some,mK,Option.map_some];rw[cW (λk=>AJ.Br (AA r k) (AA r (k+1))),AJ.Ds]
def kl(r:List Pt):List (List Int):=r.map λp=>[p.1,p.2]
theorem Vl:∀r:List Pt,Jg (AK r)=some (kl r)
 |[]=>rfl
 |p::r=>by
  have ih:=Vl r;show Jg (pv p::AK r)=_;unfold pv Jg;rw[ih]
  rfl
def dist(r:List Pt):Nat:=(_root_.ST.EN [] (kl r)).length
theorem X4{f:EF}{ρ:AZ}{r:RV}{ps:List PV}{ks:List (List Int)}(e:f ρ=some r)(h:r.list=some ps)(h2:Jg ps=some ks)(h3:ks.length<=17):J7 f ρ=some (.cl (.int (_root_.ST.EN [] ks).length)):=by
 unfold J7;rw[e];dsimp only;rw[h,Option.bind_some,h2];dsimp only;rw[if_pos h3]
theorem O4{fa fb fc:EF}{ρ:AZ}{i j k:Int}(ha:fa ρ=some (.cl (.int i)))(hb:fb ρ=some (.cl (.int j)))(hc:fc ρ=some (.cl (.int k))):EI Co Co fa fb fc ρ=some (.cl (.bl (decide (i<=j)&&decide (j<=k)))):=by
 unfold EI;rw[ha,hb];dsimp only;rw[Gq];cases h:decide (i<=j)
 ·rfl
 ·dsimp only;rw[hc];dsimp only;rw[Gq,Bool.true_and]
def Ef(r:List Pt):Bool:=(decide ((3:Int)<=r.length)&&decide ((r.length:Int)<=12))&&(((dist r:Int)==(r.length:Int))&&(r.all Ea&&(Hr r&&(Js r&&decide (0<AJ.Ds r)))))
theorem dz{r:List Pt}:OU [.lst (AK r)]=some (.cl (.bl (Ef r))):=by
 refine CT rfl ?_;unfold XE;have el:fB Az (AD (AB 0) AI) (BX 1 [.lst (AK r)])=some (.cl (.int (r.length:Int))):=by rw[<-Dx];rfl
 have e1:=Ej (BG (O4 (fa:=fC (.int 3)) (fc:=fC (.int 12)) rfl el rfl));unfold Ef;cases h1:(decide ((3:Int)<=r.length)&&decide ((r.length:Int)<=12))with
 |false=>
  rw[h1]at e1;exact D2 ((CZ e1).trans rfl)
 |true=>
  rw[h1]at e1;have hn:3<=r.length/\r.length<=12:=by
   simp only[Bool.and_eq_true,decide_eq_true_eq]at h1;lia
  rw[sq ((Bw e1).trans rfl),Bool.true_and];have e2:=BG (AR (X4 (f:=AB 0) (ρ:=BX 1 [.lst (AK r)]) rfl rfl (Vl r) (by unfold kl;rw[List.length_map];lia)) el (Hc _ _));have ec:AD (AB 0) AI (BX 1 [.lst (AK r)])=some [.cl (.lst (AK r))]:=rfl;cases h2:((dist r:Int)==(r.length:Int))with
  |false=>
   rw[show(((_root_.ST.EN [] (kl r)).length:Int)==(r.length:Int))=false from h2]at e2;exact D2 ((CZ e2).trans rfl)
  |true=>
   rw[show(((_root_.ST.EN [] (kl r)).length:Int)==(r.length:Int))=true from h2]at e2;rw[sq ((Bw e2).trans rfl),Bool.true_and];refine Df (LV (BY ec rfl (dq (by lia))) λh3=>?_);have hb:∀p∈r,Bd 1000 p:=λp hp=>by
    have:=UN.mp (List.all_eq_true.mp h3 p hp);unfold Bd at *;lia
   refine LV (BY ec rfl (dm (by lia) (by lia) hb)) λ_=>?_;refine LV (BY ec rfl (dr (by lia) (by lia) hb)) λ_=>?_;exact AR (BY ec rfl (dt (by lia) (by lia) hb)) (y:=.cl (.int 0)) rfl (EJ _ _)
open AJ (AE As BZ CF AA M nb)
theorem J6{g:AF}{ρ:AZ}{rs:List RV}{ps:List PV}(e:g ρ=some rs)(c:DW rs=some ps)(h:Nat.ble ps.length 1000=true:=by rfl):A7 g ρ=some (.cl (.tup ps)):=by unfold A7;rw[e];dsimp only;rw[c];dsimp only;rw[if_pos (Nat.le_of_ble_eq_true h)]
theorem J5{g:AF}{ρ:AZ}{rs:List RV}{ps:List PV}(e:g ρ=some rs)(c:DW rs=some ps)(h:Nat.ble ps.length 1000=true:=by rfl):B9 g ρ=some (.fr ps):=by unfold B9;rw[e];dsimp only;rw[c];dsimp only;rw[if_pos (Nat.le_of_ble_eq_true h)]
theorem aU{i j:Nat}{ga:AF}{ρ:AZ}{rs:List RV}{p q:PV}(e:ga ρ=some rs)(c:DW rs=some [p,q]):HR i j ga ρ=some (.nx ((ρ.set i (some (.im p))).set j (some (.im q)))):=by unfold HR;rw[e];dsimp only;rw[c]
def A5(s:List Int):List PV:=s.map PV.int
theorem T6(s:List Int):(A5 s).length=s.length:=List.length_map ..
def Ad(s:List Int)(k:Int):Int:=if k<s.length then s.getD k.toNat 0 else(s.getD 0 0%65521*48271+k*30103)%65521
theorem WR(s:List Int)(k:Int)(h0:0<=k)(h:k<s.length):AM (.cl (.rd (A5 s))) (.cl (.int k))=some (.cl (.int (s.getD k.toNat 0))):=by
 show(DD (A5 s) k).map _=_;have hk:k.toNat<s.length:=by lia
 have:DD (A5 s) k=some (.int (s.getD k.toNat 0)):=by
  unfold DD Ha;rw[T6,if_pos h0,if_pos h];simp[A5,hk]
 rw[this];rfl
theorem Wn{i j:Int}(h : -1000000<=j/\j<=1000000):FH i j:=.inr ⟨by lia,by lia⟩
theorem du(s:List Int)(k:Int)(h0:0<=k):Ck [.rd (A5 s),.int k]=some (.cl (.int (Ad s k))):=by
 refine CT rfl ?_;unfold XH;have el:fB Az (AD (AB 0) AI) (BX 3 [.rd (A5 s),.int k])=some (.cl (.int (s.length:Int))):=by rw[<-T6];rfl
 have e1:=BG (AR (fa:=AB 1) rfl el (FY k _));unfold Ad;by_cases h:k<s.length
 ·rw[decide_eq_true h]at e1;rw[if_pos h];exact D2 ((CZ e1).trans (Df (AR rfl rfl (WR s k h0 h))))
 ·rw[decide_eq_false h]at e1;rw[if_neg h,sq ((Bw e1).trans rfl),sq (Bc (r:=.cl (.int 0)) rfl rfl)];have jD:fB Az (AD (AB 0) AI) [some (.im (.rd (A5 s))),some (.im (.int k)),some (.im (.int 0))]=some (.cl (.int (s.length:Int))):=by rw[<-T6];rfl
  have e2:=BG (AR (fb:=fC (.int 0)) jD rfl (EJ _ _));have fin:∀b:Int,Al (f2 BI (f2 Ac (f2 C7 (f2 BI (AB 2) (fC (.int 65521))) (fC (.int 48271))) (f2 C7 (AB 1) (fC (.int 30103)))) (fC (.int 65521))) [some (.im (.rd (A5 s))),some (.im (.int k)),some (.im (.int b))]=some (.rt (.cl (.int ((b%65521*48271+k*30103)%65521)))):=λb=>
   Df (AR (AR (AR (AR (x:=.cl (.int b)) rfl rfl (GA (by lia))) rfl (Gr (Wn (by lia)))) (AR (x:=.cl (.int k)) rfl rfl (Gr (Wn (by lia)))) (KY _ _)) rfl (GA (by lia)))
  by_cases h2:(0:Int)<s.length
  ·rw[decide_eq_true h2]at e2;have e3:Ai 2 (f2 AM (AB 0) (fC (.int 0))) [some (.im (.rd (A5 s))),some (.im (.int k)),some (.im (.int 0))]=some (.nx [some (.im (.rd (A5 s))),some (.im (.int k)),some (.im (.int (s.getD 0 0)))]):=Bc (AR rfl rfl (WR s 0 (by lia) h2)) rfl;refine(sq ((CZ e2).trans e3)).trans (fin _)
  ·rw[decide_eq_false h2]at e2;have:s=[]:=List.length_eq_zero_iff.mp (by lia);subst this;exact(sq ((Bw e2).trans rfl)).trans (fin 0)
theorem Ob{a b c:Pt}(ha:Bd 1000 a)(hb:Bd 1000 b):Dn [pv a,pv b,pv c]=some (.cl (.int (AE a b c))):=by
 have h1:FH (b.1-a.1) (c.2-a.2):=GV (by unfold Bd at *;lia);have h2:FH (b.2-a.2) (c.1-a.1):=GV (by unfold Bd at *;lia);refine CT rfl ?_;unfold XX;have e:HR 3 4 (AD (f2 Aj (f2 AM (AB 1) (fC (.int 0))) (f2 AM (AB 0) (fC (.int 0)))) (AD (f2 Aj (f2 AM (AB 1) (fC (.int 1))) (f2 AM (AB 0) (fC (.int 1)))) AI)) (BX 5 [pv a,pv b,pv c])=some (.nx [some (.im (pv a)),some (.im (pv b)),some (.im (pv c)),some (.im (.int (b.1-a.1))),some (.im (.int (b.2-a.2)))]):=rfl;rw[sq e];exact Df (AR (AR (x:=.cl (.int (b.1-a.1))) (y:=.cl (.int (c.2-a.2))) rfl rfl (Gr h1)) (AR (x:=.cl (.int (b.2-a.2))) (y:=.cl (.int (c.1-a.1))) rfl rfl (Gr h2)) (FZ _ _))
def Gd(r:List Pt):Bool:=(List.range r.length).any λk=>AE (AA r ((k:Int)-2)) (AA r ((k:Int)-1)) (AA r k)==0
theorem Ni(r:List Pt)(ρ:AZ)(h:ρ[0]? = some (some (.im (.lst (AK r))))):fB Az (AD (AB 0) AI) ρ=some (.cl (.int (r.length:Int))):=by
 rw[<-Dx];exact DX (AO (x:=.cl (.lst (AK r))) (by unfold AB;rw[h]) (Af _)) rfl
theorem V4{r:List Pt}(hl:r.length<=1000)(h2:2<=r.length)(hb:∀p∈r,Bd 1000 p):Jl [.lst (AK r)]=some (.cl (.bl (Gd r))):=by
 refine CT rfl ?_;unfold XJ;have I0:CI (AD (fB Az (AD (AB 0) AI)) AI) (BX 2 [.lst (AK r)])=some ((List.range r.length).map λk:Nat=>PV.int (k:Int)):=EY (AO (Ni r _ rfl) (Af _)) hl;have H:=Gv (enc:=λk:Nat=>PV.int (k:Int)) (gt:=Ag 1) (body:=(Ax (AS (f2 CP (AU Dn (AD (f2 AM (AB 0) (f2 Aj (AB 1) (fC (.int 2)))) (AD (f2 AM (AB 0) (f2 Aj (AB 1) (fC (.int 1)))) (AD (f2 AM (AB 0) (AB 1)) AI)))) (fC (.int 0)))) (Al (fC (.bl true))) A8))
  (c:=λk=>AE (AA r ((k:Int)-2)) (AA r ((k:Int)-1)) (AA r k)==0) (r:=.cl (.bl true))
  (λρ=>∃a,ρ=[some (.im (.lst (AK r))),a]) (xs:=List.range r.length) (ρ:=BX 2 [.lst (AK r)]) ⟨none,rfl⟩ (by
  rintro k hk ρ ⟨a,rfl⟩;have CC:=List.mem_range.mp hk;refine⟨_,rfl,?_⟩;have et:AS (f2 CP (AU Dn (AD (f2 AM (AB 0) (f2 Aj (AB 1) (fC (.int 2)))) (AD (f2 AM (AB 0) (f2 Aj (AB 1) (fC (.int 1)))) (AD (f2 AM (AB 0) (AB 1)) AI)))) (fC (.int 0))) [some (.im (.lst (AK r))),some (.im (.int k))]=some (AE (AA r ((k:Int)-2)) (AA r ((k:Int)-1)) (AA r k)==0):=by
   refine BG (AR (BY (AO (AR rfl rfl (DK r ((k:Int)-2) (by lia) (by lia))) (AO (AR rfl rfl (DK r ((k:Int)-1) (by lia) (by lia))) (AO (AR rfl rfl (DK r (k:Int) (by lia) (by lia))) (Af _)))) rfl (Ob (Dt (by lia) hb _) (Dt (by lia) hb _))) rfl (T9 _ _))
  refine⟨λh=>?_,λh=>⟨_,?_,some (.im (.int k)),rfl⟩⟩
  ·rw[h]at et;exact(CZ et).trans rfl
  ·rw[h]at et;exact(Bw et).trans rfl)
 unfold Gd;cases ha:(List.range r.length).any λk=>AE (AA r ((k:Int)-2)) (AA r ((k:Int)-1)) (AA r k)==0 with
 |true=>exact D2 ((DR I0).trans (H.1 ha))
 |false=>
  obtain⟨ρ',e,a,rfl⟩:=H.2 ha;rw[sq ((DR I0).trans e)];rfl
theorem YH(r:List Pt):Hr r = !Gd r:=by
 unfold Hr Gd;rw[List.not_any_eq_all_not]
theorem WA{a b c:Pt}(ha:Bd 1000 a)(hb:Bd 1000 b):HE [pv a,pv b,pv c]=some (.cl (.bl (As a b c))):=by
 refine CT rfl ?_;unfold XS;have e1:=BG (AR (ρ:=BX 5 [pv a,pv b,pv c]) (fb:=fC (.int 0)) (BY (AO (f:=AB 0) rfl (AO (f:=AB 1) rfl (AO (f:=AB 2) rfl (Af _)))) rfl (Ob (c:=c) ha hb)) rfl (Hc _ _));by_cases h:AE a b c=0
 ·rw[show(!(AE a b c==0))=false by simp[h]]at e1;rw[sq ((Bw e1).trans rfl),sq (Bc (J6 (AO (DX (AO (AR rfl rfl (E9 a)) (AO (AR rfl rfl (E9 b)) (Af _))) (Lo _ _)) (AO (DX (AO (AR rfl rfl (EA a)) (AO (AR rfl rfl (EA b)) (Af _))) (Lo _ _)) (Af _))) rfl) rfl),sq (Bc (J6 (AO (DX (AO (AR rfl rfl (E9 a)) (AO (AR rfl rfl (E9 b)) (Af _))) (JO _ _)) (AO (DX (AO (AR rfl rfl (EA a)) (AO (AR rfl rfl (EA b)) (Af _))) (JO _ _)) (Af _))) rfl) rfl)]
  have e2:As a b c=((decide (min a.1 b.1<=c.1)&&decide (c.1<=max a.1 b.1))&&(decide (min a.2 b.2<=c.2)&&decide (c.2<=max a.2 b.2))):=by
   rw[As,Bool.decide_and,Bool.decide_and,decide_eq_true h,Bool.true_and]
  rw[e2];exact Df (LV (O4 (i:=min a.1 b.1) (j:=c.1) (k:=max a.1 b.1) rfl rfl rfl) λ_=>O4 (i:=min a.2 b.2) (j:=c.2) (k:=max a.2 b.2) rfl rfl rfl)
 ·rw[show(!(AE a b c==0))=true by simp[h]]at e1;rw[show As a b c=false by simp[As,h]];exact D2 ((CZ e1).trans rfl)
theorem V6{a b c d:Pt}(ha:Bd 1000 a)(hb:Bd 1000 b)(hc:Bd 1000 c)(hd:Bd 1000 d):GO [pv a,pv b,pv c,pv d]=some (.cl (.bl (CF a b c d))):=by
 refine CT rfl ?_;unfold XR;have e0:∀h:SF,AQ (Ai 4 (B9 (AD (A7 (AD (AB 0) (AD (AB 1) (AD (AB 2) AI)))) (AD (A7 (AD (AB 0) (AD (AB 1) (AD (AB 3) AI)))) AI)))) (AQ (Ai 4 (f2 Ac (AB 4) (B9 (AD (A7 (AD (AB 2) (AD (AB 3) (AD (AB 0) AI)))) (AD (A7 (AD (AB 2) (AD (AB 3) (AD (AB 1) AI)))) AI))))) h) (BX 9 [pv a,pv b,pv c,pv d]) = h [some (.im (pv a)),some (.im (pv b)),some (.im (pv c)),some (.im (pv d)),some (.im (.lst [.tup [pv a,pv b,pv c],.tup [pv a,pv b,pv d],.tup [pv c,pv d,pv a],.tup [pv c,pv d,pv b]])),none,none,none,none]:=λh=>by
  rw[sq (ρ':=[some (.im (pv a)),some (.im (pv b)),some (.im (pv c)),some (.im (pv d)),some (.im (.lst [.tup [pv a,pv b,pv c],.tup [pv a,pv b,pv d]])),none,none,none,none]) rfl];rw[sq (ρ':=[some (.im (pv a)),some (.im (pv b)),some (.im (pv c)),some (.im (pv d)),some (.im (.lst [.tup [pv a,pv b,pv c],.tup [pv a,pv b,pv d],.tup [pv c,pv d,pv a],.tup [pv c,pv d,pv b]])),none,none,none,none]) rfl]
 rw[e0];have H:=Gv (enc:=λt:Pt×Pt×Pt=>PV.tup [pv t.1,pv t.2.1,pv t.2.2]) (gt:=D7 3 (CJ (Ag 5) (CJ (Ag 6) (CJ (Ag 7) D8)))) (body:=Ax (AS (AU HE (AD (AB 5) (AD (AB 6) (AD (AB 7) AI))))) (Al (fC (.bl true))) A8)
  (c:=λt=>As t.1 t.2.1 t.2.2) (r:=.cl (.bl true))
  (λρ=>∃x y z,ρ=[some (.im (pv a)),some (.im (pv b)),some (.im (pv c)),some (.im (pv d)),some (.im (.lst [.tup [pv a,pv b,pv c],.tup [pv a,pv b,pv d],.tup [pv c,pv d,pv a],.tup [pv c,pv d,pv b]])),x,y,z,none]) (xs:=[(a,b,c),(a,b,d),(c,d,a),(c,d,b)]) ⟨none,none,none,rfl⟩ (by
  rintro⟨x1,x2,x3⟩ ht ρ ⟨x,y,z,rfl⟩;refine⟨_,rfl,?_⟩;have Yc:Bd 1000 x1/\Bd 1000 x2:=by
   simp only[List.mem_cons,Prod.mk.injEq,List.not_mem_nil,or_false]at ht;rcases ht with⟨rfl,rfl,_⟩|⟨rfl,rfl,_⟩|⟨rfl,rfl,_⟩|⟨rfl,rfl,_⟩<;>constructor<;>assumption
  have et:AS (AU HE (AD (AB 5) (AD (AB 6) (AD (AB 7) AI)))) [some (.im (pv a)),some (.im (pv b)),some (.im (pv c)),some (.im (pv d)),some (.im (.lst [.tup [pv a,pv b,pv c],.tup [pv a,pv b,pv d],.tup [pv c,pv d,pv a],.tup [pv c,pv d,pv b]])),some (.im (pv x1)),some (.im (pv x2)),some (.im (pv x3)),none]=some (As x1 x2 x3):=
   BG (BY (AO rfl (AO rfl (AO rfl (Af _)))) rfl (WA Yc.1 Yc.2))
  refine⟨λh=>?_,λh=>⟨_,?_,some (.im (pv x1)),some (.im (pv x2)),some (.im (pv x3)),rfl⟩⟩
  ·rw[show As x1 x2 x3=true from h]at et;exact(CZ et).trans rfl
  ·rw[show As x1 x2 x3=false from h]at et;exact(Bw et).trans rfl)
 have ea:([(a,b,c),(a,b,d),(c,d,a),(c,d,b)]:List (Pt×Pt×Pt)).any (λt=>As t.1 t.2.1 t.2.2)=(As a b c||As a b d||As c d a||As c d b):=by
  simp only[List.any_cons,List.any_nil,Bool.or_false,Bool.or_assoc]
 rw[ea]at H;unfold CF;have I0:∀x y z w:Option SV,Bp true (AB 4) [some (.im (pv a)),some (.im (pv b)),some (.im (pv c)),some (.im (pv d)),some (.im (.lst [.tup [pv a,pv b,pv c],.tup [pv a,pv b,pv d],.tup [pv c,pv d,pv a],.tup [pv c,pv d,pv b]])),x,y,z,w]=some (([(a,b,c),(a,b,d),(c,d,a),(c,d,b)]:List (Pt×Pt×Pt)).map λt=>PV.tup [pv t.1,pv t.2.1,pv t.2.2]):=λ_ _ _ _=>rfl;cases ho:(As a b c||As a b d||As c d a||As c d b)with
 |true=>
  rw[Bool.true_or];exact D2 ((DR (I0 _ _ _ _)).trans (H.1 ho))
 |false=>
  obtain⟨ρ',e,x,y,z,rfl⟩:=H.2 ho;rw[Bool.false_or,sq ((DR (I0 _ _ _ _)).trans e)];have sd:∀(f g h:EF)(u v w:Pt)(ρ:AZ),Bd 1000 u->Bd 1000 v->f ρ=some (.cl (pv u))->g ρ=some (.cl (pv v))->h ρ=some (.cl (pv w))->f2 Cn (AU Dn (AD f (AD g (AD h AI)))) (fC (.int 0)) ρ=some (.cl (.bl (decide (AE u v w>0)))):=λf g h u v w ρ b1 b2 e1 e2 e3=>
   AR (BY (AO e1 (AO e2 (AO e3 (Af _)))) rfl (Ob b1 b2)) rfl (EJ _ _)
  rw[sq (Bc (AR (sd _ _ _ a b c _ ha hb rfl rfl rfl) (sd _ _ _ a b d _ ha hb rfl rfl rfl) (ZS _ _)) rfl)];exact Df (LV (a:=decide (AE a b c>0) != decide (AE a b d>0)) rfl λ_=>AR (sd _ _ _ c d a _ hc hd rfl rfl rfl) (sd _ _ _ c d b _ hc hd rfl rfl rfl) (ZS _ _))
section
variable{α β:Type}{enc:α->PV}
theorem Nj{gt:GF}{body:SF}(f:β->α->β)(R:Nat->β->AZ->Prop):∀{xs:List α}{n:Nat}{b:β}{ρ:AZ},R n b ρ->(∀i x,xs[i]? = some x->∀b ρ,R (n+i) b ρ->∃BW Cu,gt (enc x) ρ=some BW/\body BW=some (.nx Cu)/\R (n+i+1) (f b x) Cu)->∃ρ',EB gt body (xs.map enc) ρ=some (.nx ρ')/\R (n+xs.length) (xs.foldl f b) ρ'
 |[],n,b,ρ,hR,_=>⟨ρ,rfl,hR⟩
 |x::xs,n,b,ρ,hR,H=>by
  obtain⟨BW,Cu,e1,e2,h2⟩:=H 0 x rfl b ρ hR;rw[List.map_cons,List.foldl_cons];unfold EB;rw[e1];dsimp only;rw[e2];obtain⟨ρ',e,h⟩:=Nj f R (xs:=xs) (n:=n+1) h2 λi y hy b ρ hb=>by
   have:=H (i+1) y (by simpa using hy) b ρ (by rw[show n+(i+1)=n+1+i by lia];exact hb);rw[show n+1+i+1=n+(i+1)+1 by lia];exact this
  exact⟨ρ',e,by rw[List.length_cons,show n+(xs.length+1)=n+1+xs.length by lia];exact h⟩
end
theorem YK(f:Int->Int):∀(n:Nat)(z:Int),((List.range n).foldl (λt (k:Nat)=>t+f k) z)=z+AJ.AW f n
 |0,z=>by simp[AJ.AW]
 |n+1,z=>by
  rw[List.range_succ,List.foldl_append,YK f n z];simp[AJ.AW];lia
theorem eE{r:List Pt}(hl:r.length<=1000)(h1:0<r.length)(hb:∀p∈r,Bd 1000 p):MR [.lst (AK r)]=some (.cl (.int (AJ.K7 r))):=by
 refine CT rfl ?_;unfold XG;rw[sq (ρ':=[some (.im (.lst (AK r))),some (.im (.int 0)),none,none,none]) rfl];have I0:CI (AD (fB Az (AD (AB 0) AI)) AI) [some (.im (.lst (AK r))),some (.im (.int 0)),none,none,none]=some ((List.range r.length).map λk:Nat=>PV.int (k:Int)):=EY (AO (Ni r _ rfl) (Af _)) hl;obtain⟨ρ',e,a,b,c,rfl⟩:=UD (enc:=λk:Nat=>PV.int (k:Int)) (gt:=Ag 2) (body:=AQ (HR 3 4 (AD (f2 AM (AB 0) (f2 Aj (AB 2) (fC (.int 1)))) (AD (f2 AM (AB 0) (AB 2)) AI)))
  (Ai 1 (f2 Aj (f2 Ac (AB 1) (f2 C7 (f2 AM (AB 3) (fC (.int 0))) (f2 AM (AB 4) (fC (.int 1))))) (f2 C7 (f2 AM (AB 3) (fC (.int 1))) (f2 AM (AB 4) (fC (.int 0)))))))
  (λ(t:Int)(k:Nat)=>t+AJ.Br (AA r ((k:Int)-1)) (AA r k)) (λt ρ=>∃a b c,ρ=[some (.im (.lst (AK r))),some (.im (.int t)),a,b,c]) (xs:=List.range r.length) (b:=0) ⟨none,none,none,rfl⟩ (by
  rintro k hk t ρ ⟨a,b,c,rfl⟩;have CC:=List.mem_range.mp hk;refine⟨_,[some (.im (.lst (AK r))),some (.im (.int (t+AJ.Br (AA r ((k:Int)-1)) (AA r k)))),some (.im (.int k)),some (.im (pv (AA r ((k:Int)-1)))),some (.im (pv (AA r k)))],rfl,?_,_,_,_,rfl⟩;have h3:=Dt (by lia) hb ((k:Int)-1);have e1:HR 3 4 (AD (f2 AM (AB 0) (f2 Aj (AB 2) (fC (.int 1)))) (AD (f2 AM (AB 0) (AB 2)) AI)) [some (.im (.lst (AK r))),some (.im (.int t)),some (.im (.int k)),b,c] = some (.nx [some (.im (.lst (AK r))),some (.im (.int t)),some (.im (.int k)),some (.im (pv (AA r ((k:Int)-1)))),some (.im (pv (AA r k)))]):=by
   exact aU (AO (AR rfl rfl (DK r ((k:Int)-1) (by lia) (by lia))) (AO (AR rfl rfl (DK r (k:Int) (by lia) (by lia))) (Af _))) rfl
  refine(sq e1).trans ?_;have e2:t+(AA r ((k:Int)-1)).1*(AA r k).2-(AA r ((k:Int)-1)).2*(AA r k).1=t+AJ.Br (AA r ((k:Int)-1)) (AA r k):=by unfold AJ.Br;lia
  rw[<-e2];refine(Bc (AR (AR (x:=.cl (.int t)) rfl (AR (AR rfl rfl (E9 _)) (AR rfl rfl (EA _)) (Gr (GV (by unfold Bd at h3;lia)))) (KY _ _)) (AR (AR rfl rfl (EA _)) (AR rfl rfl (E9 _)) (Gr (GV (by unfold Bd at h3;lia)))) (FZ _ _)) rfl).trans ?_
  rfl)
 rw[sq ((DR I0).trans e),YK (λk=>AJ.Br (AA r (k-1)) (AA r k)),Int.zero_add]
 rfl
theorem Ww{f:EF}{t:BF}{fe:EF}{ρ:AZ}{cap:List Nat}{rv:RV}{r:List Pt}{c:Pt->Bool}{h:Pt->PV}(e:f ρ=some rv)(hp:rv.list=some (AK r))(hl:r.length<=1000) (H:∀p∈r,t (some (.im (.int p.1))::some (.im (.int p.2))::cap.map λj=>(ρ[j]?).join)=some (c p)/\(c p=true->∃x,fe (some (.im (.int p.1))::some (.im (.int p.2))::cap.map λj=>(ρ[j]?).join)=some x/\x.clean=some (h p))) :
 Bt (Bp false f) 2 cap (D7 2 (CJ (Ag 0) (CJ (Ag 1) D8))) t fe ρ=some (.fr ((r.filter c).map h)):=by
 refine EX (Hz e hp) (by rw[Dx];exact hl) ?_;refine GY (enc:=pv) (h:=h) λp hp=>⟨_,rfl,?_⟩;exact H p hp
theorem Sh{f:EF}{fe:EF}{ρ:AZ}{cap:List Nat}{rv:RV}{r:List Pt}{h:Pt->PV}(e:f ρ=some rv)(hp:rv.list=some (AK r))(hl:r.length<=1000) (H:∀p∈r,∃x,fe (some (.im (.int p.1))::some (.im (.int p.2))::cap.map λj=>(ρ[j]?).join)=some x/\x.clean=some (h p)) :
 Bt (Bp false f) 2 cap (D7 2 (CJ (Ag 0) (CJ (Ag 1) D8))) B6 fe ρ=some (.fr (r.map h)):=by
 have:=Ww (t:=B6) (c:=λ_=>true) (h:=h) e hp hl λp hp=>⟨rfl,λ_=>H p hp⟩;rw[this,List.filter_eq_self.mpr λ_ _=>rfl]
theorem Py(i a b:Int):Bl true (.cl (.int i)) (.fr [.int a,.int b])=some (.cl (.bl (!(i==a||i==b)))):=by
 simp only[Bl,RV.seq,RV.list,E8,Option.map_some,List.any_cons,List.any_nil,Bool.or_false,if_true];rw[Bool.beq_comm (a:=a),Bool.beq_comm (a:=b)]
def HP(r:List Pt):Bool:=decide ((0:Int)<((r.filter λp=>decide (max (Dl p.1) (Dl p.2)>100)).length:Int))
def CH(r:List Pt):Bool:=(List.range r.length).any λk=>(List.range k).any λj=>!(nb r.length ((k:Int)-j))&&CF (AA r ((k:Int)-1)) (AA r k) (AA r ((j:Int)-1)) (AA r j)
def KH(r:List Pt):Bool:=!(!(decide ((3:Int)<=r.length)&&decide ((r.length:Int)<=12))||HP r)&&(!(!((dist r:Int)==(r.length:Int))||(Gd r||decide (AJ.K7 r<=0)))&&!CH r)
theorem YD(r:List Pt):HP r = !(r.all Ea):=by
 have h:∀p:Pt,decide (max (Dl p.1) (Dl p.2)>100) = !Ea p:=λp=>by
  unfold Ea;rw[<-Bool.decide_and,<-decide_not];apply decide_eq_decide.mpr;lia
 unfold HP;rw[List.filter_congr (q:=λp=>!Ea p) (λp _=>h p)];cases ha:r.all Ea with
 |true=>
  have:r.filter (λp=>!Ea p)=[]:=List.filter_eq_nil_iff.mpr λp hp=>by
   have:=List.all_eq_true.mp ha p hp;simp[this]
  rw[this];rfl
 |false=>
  obtain⟨p,hp,hn⟩:=List.all_eq_false.mp ha;have hm:p∈r.filter (λp=>!Ea p):=List.mem_filter.mpr ⟨hp,by simpa using hn⟩;have:=List.length_pos_of_mem hm;rw[decide_eq_true (by lia)];rfl
theorem dy{r:List Pt}(hl:r.length<=1000):Ky [.lst (AK r)]=some (.cl (.bl (KH r))):=by
 refine CT rfl ?_;unfold XM;rw[sq (Bc (Ni r _ rfl) rfl)];show AQ _ _ [some (.im (.lst (AK r))),some (.im (.int (r.length:Int))),none,none]=_;have e1:(CU (CA (AS (EI Co Co (fC (.int 3)) (AB 1) (fC (.int 12))))) (AS (f2 Cn (fB Az (AD (Bt (Bp false (AB 0)) 2 [] (D7 2 (CJ (Ag 0) (CJ (Ag 1) D8))) (AS (f2 Cn (fB FA (AD (fB Dw (AD (AB 0) AI)) (AD (fB Dw (AD (AB 1) AI)) AI))) (fC (.int 100)))) (fC (.int 1))) AI)) (fC (.int 0))))) [some (.im (.lst (AK r))),some (.im (.int (r.length:Int))),none,none] = some (!(decide ((3:Int)<=r.length)&&decide ((r.length:Int)<=12))||HP r):=by
  refine F0 (Ej (BG (O4 rfl rfl rfl))) λ_=>?_;have ec:=Ww (f:=AB 0) (t:=AS (f2 Cn (fB FA (AD (fB Dw (AD (AB 0) AI)) (AD (fB Dw (AD (AB 1) AI)) AI))) (fC (.int 100)))) (fe:=fC (.int 1)) (ρ:=[some (.im (.lst (AK r))),some (.im (.int (r.length:Int))),none,none]) (cap:=[]) (rv:=.cl (.lst (AK r))) (r:=r) (c:=λp=>decide (max (Dl p.1) (Dl p.2)>100)) (h:=λ_=>.int 1) rfl rfl hl
   λp _=>⟨BG (AR (DX (AO (DX (AO rfl (Af _)) (Nc p.1)) (AO (DX (AO rfl (Af _)) (Nc p.2)) (Af _))) (JO _ _)) rfl (EJ _ _)),λ_=>⟨_,rfl,rfl⟩⟩
  refine BG (AR (DX (AO ec (Af _)) (ZR _)) rfl ?_);rw[EJ,List.length_map]
  rfl
 unfold KH;cases h1:(!(decide ((3:Int)<=r.length)&&decide ((r.length:Int)<=12))||HP r)with
 |true=>
  rw[h1]at e1;exact D2 ((CZ e1).trans rfl)
 |false=>
  rw[h1]at e1;rw[sq ((Bw e1).trans rfl),Bool.not_false,Bool.true_and];simp only[Bool.or_eq_false_iff,Bool.not_eq_false',Bool.and_eq_true,decide_eq_true_eq]at h1;obtain⟨⟨Yt,Pj⟩,hf⟩:=h1;rw[YD,Bool.not_eq_false']at hf;have hb:∀p∈r,Bd 1000 p:=λp hp=>by
   have:=UN.mp (List.all_eq_true.mp hf p hp);unfold Bd at *;lia
  have ec:AD (AB 0) AI [some (.im (.lst (AK r))),some (.im (.int (r.length:Int))),none,none]=some [.cl (.lst (AK r))]:=rfl;have e2:(CU (AS (f2 C0 (J7 (AB 0)) (AB 1))) (CU (AS (AU Jl (AD (AB 0) AI))) (AS (f2 Co (AU MR (AD (AB 0) AI)) (fC (.int 0)))))) [some (.im (.lst (AK r))),some (.im (.int (r.length:Int))),none,none] = some (!((dist r:Int)==(r.length:Int))||(Gd r||decide (AJ.K7 r<=0))):=by
   refine F0 (BG (AR (X4 rfl rfl (Vl r) (by unfold kl;rw[List.length_map];lia)) rfl (Hc _ _))) λ_=>?_;exact F0 (BG (BY ec rfl (V4 (by lia) (by lia) hb))) λ_=>BG (AR (BY ec rfl (eE (by lia) (by lia) hb)) rfl (Gq _ _))
  cases h2:(!((dist r:Int)==(r.length:Int))||(Gd r||decide (AJ.K7 r<=0)))with
  |true=>
   rw[h2]at e2;exact D2 ((CZ e2).trans rfl)
  |false=>
   rw[h2]at e2;rw[sq ((Bw e2).trans rfl),Bool.not_false,Bool.true_and];have I0:CI (AD (AB 1) AI) [some (.im (.lst (AK r))),some (.im (.int (r.length:Int))),none,none]=some ((List.range r.length).map λk:Nat=>PV.int (k:Int)):=EY rfl hl;have H:=Gv (enc:=λk:Nat=>PV.int (k:Int)) (gt:=Ag 2) (body:=(DI (CI (AD (AB 2) AI)) (Ag 3) (Ax (AS (f2 (Bl true) (f2 BI (f2 Aj (AB 2) (AB 3)) (AB 1)) (B9 (AD (fC (.int 1)) (AD (f2 Aj (AB 1) (fC (.int 1))) AI))))) (Ax (AS (AU GO (AD (f2 AM (AB 0) (f2 Aj (AB 2) (fC (.int 1)))) (AD (f2 AM (AB 0) (AB 2)) (AD (f2 AM (AB 0) (f2 Aj (AB 3) (fC (.int 1)))) (AD (f2 AM (AB 0) (AB 3)) AI)))))) (Al (fC (.bl false))) A8) A8)))
    (c:=λk=>(List.range k).any λj=>!(nb r.length ((k:Int)-j))&&CF (AA r ((k:Int)-1)) (AA r k) (AA r ((j:Int)-1)) (AA r j)) (r:=.cl (.bl false))
    (λρ=>∃a b,ρ=[some (.im (.lst (AK r))),some (.im (.int (r.length:Int))),a,b]) (xs:=List.range r.length) ⟨none,none,rfl⟩ (by
    rintro k hk ρ ⟨a,b,rfl⟩;have CC:=List.mem_range.mp hk;refine⟨_,rfl,?_⟩;have hr:CI (AD (AB 2) AI) [some (.im (.lst (AK r))),some (.im (.int (r.length:Int))),some (.im (.int k)),b]=some ((List.range k).map λd:Nat=>PV.int (d:Int)):=EY rfl (by lia);have H2:=Gv (enc:=λk:Nat=>PV.int (k:Int)) (gt:=Ag 3) (body:=(Ax (AS (f2 (Bl true) (f2 BI (f2 Aj (AB 2) (AB 3)) (AB 1)) (B9 (AD (fC (.int 1)) (AD (f2 Aj (AB 1) (fC (.int 1))) AI))))) (Ax (AS (AU GO (AD (f2 AM (AB 0) (f2 Aj (AB 2) (fC (.int 1)))) (AD (f2 AM (AB 0) (AB 2)) (AD (f2 AM (AB 0) (f2 Aj (AB 3) (fC (.int 1)))) (AD (f2 AM (AB 0) (AB 3)) AI)))))) (Al (fC (.bl false))) A8) A8))
     (c:=λj=>!(nb r.length ((k:Int)-j))&&CF (AA r ((k:Int)-1)) (AA r k) (AA r ((j:Int)-1)) (AA r j)) (r:=.cl (.bl false))
     (λρ=>∃b,ρ=[some (.im (.lst (AK r))),some (.im (.int (r.length:Int))),some (.im (.int k)),b]) (xs:=List.range k) ⟨b,rfl⟩ (by
     rintro j hj ρ ⟨b,rfl⟩;have Cz:=List.mem_range.mp hj;refine⟨_,rfl,?_⟩;have et:AS (f2 (Bl true) (f2 BI (f2 Aj (AB 2) (AB 3)) (AB 1)) (B9 (AD (fC (.int 1)) (AD (f2 Aj (AB 1) (fC (.int 1))) AI)))) [some (.im (.lst (AK r))),some (.im (.int (r.length:Int))),some (.im (.int k)),some (.im (.int j))]=some (!(nb r.length ((k:Int)-j))):=
      BG (AR (AR (AR rfl rfl (FZ _ _)) rfl (GA (by lia))) (J5 rfl rfl) (Py _ _ _))
     have em:AS (AU GO (AD (f2 AM (AB 0) (f2 Aj (AB 2) (fC (.int 1)))) (AD (f2 AM (AB 0) (AB 2)) (AD (f2 AM (AB 0) (f2 Aj (AB 3) (fC (.int 1)))) (AD (f2 AM (AB 0) (AB 3)) AI))))) [some (.im (.lst (AK r))),some (.im (.int (r.length:Int))),some (.im (.int k)),some (.im (.int j))]=some (CF (AA r ((k:Int)-1)) (AA r k) (AA r ((j:Int)-1)) (AA r j)):=
      BG (BY (AO (AR rfl rfl (DK r ((k:Int)-1) (by lia) (by lia))) (AO (AR rfl rfl (DK r (k:Int) (by lia) (by lia))) (AO (AR rfl rfl (DK r ((j:Int)-1) (by lia) (by lia))) (AO (AR rfl rfl (DK r (j:Int) (by lia) (by lia))) (Af _))))) rfl (V6 (Dt (by lia) hb _) (Dt (by lia) hb _) (Dt (by lia) hb _) (Dt (by lia) hb _)))
     refine⟨λh=>?_,λh=>⟨_,?_,some (.im (.int j)),rfl⟩⟩
     ·simp only[Bool.and_eq_true]at h;rw[h.1]at et;rw[h.2]at em;exact(CZ et).trans ((CZ em).trans rfl)
     ·cases hq:(!(nb r.length ((k:Int)-j)))with
      |false=>rw[hq]at et;exact(Bw et).trans rfl
      |true=>
       rw[hq,Bool.true_and]at h;rw[hq]at et;rw[h]at em;exact(CZ et).trans ((Bw em).trans rfl))
    refine⟨λh=>?_,λh=>?_⟩
    ·exact(DR hr).trans (H2.1 h)
    ·obtain⟨ρ',e,b',rfl⟩:=H2.2 h;exact⟨_,(DR hr).trans e,_,_,rfl⟩)
   unfold CH;cases ha:(List.range r.length).any λk=>(List.range k).any λj=>!(nb r.length ((k:Int)-j))&&CF (AA r ((k:Int)-1)) (AA r k) (AA r ((j:Int)-1)) (AA r j)with
   |true=>exact D2 ((DR I0).trans (H.1 ha))
   |false=>
    obtain⟨ρ',e,a,b,rfl⟩:=H.2 ha;rw[sq ((DR I0).trans e)];rfl
theorem WO(r:List Pt):Js r=true↔AJ.K6 r:=by
 unfold Js AJ.K6;simp only[Bool.not_eq_true',List.any_eq_false,List.mem_range,Bool.and_eq_true,not_and,Bool.not_eq_true,Bool.not_eq_true'];constructor
 ·intro h k m h0 h1 h2 hn;have:=h k.toNat (by lia) (m-k-1).toNat;rw[Int.toNat_of_nonneg h0,Int.toNat_of_nonneg (by lia),show k+1+(m-k-1)=m by lia]at this;exact this (by lia) hn
 ·intro h k hk d hd h1;exact h k (k+1+d) (by lia) (by lia) (by lia) h1
theorem Oz(r:List Pt):CH r=false↔AJ.Rh r:=by
 unfold CH AJ.Rh;simp only[List.any_eq_false,List.mem_range,Bool.and_eq_true,not_and,Bool.not_eq_true,Bool.not_eq_true'];constructor
 ·intro h k j h0 h1 h2 hn;have:=h k.toNat (by lia) j.toNat (by lia);rw[Int.toNat_of_nonneg h0,Int.toNat_of_nonneg (by lia)]at this;unfold M;rw[<-AJ.P9,show k-1+1=k by lia,show j-1+1=j by lia];exact this hn
 ·intro h k hk j hj h1;have:=h k j (by lia) (by lia) (by lia) h1;unfold M at this;rw[<-AJ.P9,show(k:Int)-1+1=k by lia,show(j:Int)-1+1=j by lia]at this;exact this
theorem jx(r:List Pt):KH r=Ef r:=by
 have h1:(!CH r)=Js r:=by
  rw[Bool.eq_iff_iff,Bool.not_eq_true',Oz,WO];exact AJ.fS r
 unfold KH Ef;rw[h1,YD,YH,AJ.fU];have h2:decide (0<AJ.Ds r) = !decide (AJ.Ds r<=0):=by
  rw[<-decide_not];apply decide_eq_decide.mpr;lia
 rw[h2];generalize (decide ((3:Int)<=r.length)&&decide ((r.length:Int)<=12))=b1;generalize r.all Ea=b2;generalize ((dist r:Int)==(r.length:Int))=b3;generalize Gd r=b4;generalize decide (AJ.Ds r<=0)=b5;generalize Js r=b6;cases b1<;>cases b2<;>cases b3<;>cases b4<;>cases b5<;>cases b6<;>rfl
theorem HM{f g:EF}{ρ:AZ}{s:List Int}{k:Int}(e1:f ρ=some (.cl (.rd (A5 s))))(e2:g ρ=some (.cl (.int k)))(h:0<=k):AU Ck (AD f (AD g AI)) ρ=some (.cl (.int (Ad s k))):=
 BY (AO e1 (AO e2 (Af _))) rfl (du s k h)
theorem Gb{f:EF}{ρ:AZ}{i:Int}(n:Int)(e:f ρ=some (.cl (.int i)))(h:0<n:=by lia)(h2:n<1073741824:=by lia):f2 C6 f (fC (.int n)) ρ=some (.cl (.int (i / n))):=AR e rfl (mT h h2)
theorem EU{f:EF}{ρ:AZ}{i:Int}(n:Int)(e:f ρ=some (.cl (.int i)))(h:0<n:=by lia):f2 BI f (fC (.int n)) ρ=some (.cl (.int (i%n))):=AR e rfl (GA h)
theorem HL{f g:EF}{ρ:AZ}{i j:Int}(e:f ρ=some (.cl (.int i)))(e':g ρ=some (.cl (.int j))):f2 Ac f g ρ=some (.cl (.int (i+j))):=AR e e' (KY _ _)
theorem LW{f g:EF}{ρ:AZ}{i j:Int}(e:f ρ=some (.cl (.int i)))(e':g ρ=some (.cl (.int j))):f2 Aj f g ρ=some (.cl (.int (i-j))):=AR e e' (FZ _ _)
theorem J4{f:EF}{ρ:AZ}{i:Int}(n:Int)(e:f ρ=some (.cl (.int i))):AS (f2 CP f (fC (.int n))) ρ=some (i==n):=BG (AR e rfl (T9 _ _))
def Fc(s:List Int)(k count mode:Int)(b:Int×List Pt×List Pt)(d:Nat):Int×List Pt×List Pt:=
 let x:=if mode=3 then 1+(d:Int)else b.1+1+Ad s (k+4+(1+(d:Int))) / 2%4
 let y:=if mode=3 then(1+(d:Int))*(count-1-(1+(d:Int)))else 1+Ad s (k+4+(1+(d:Int))) / 8%9
 if Ad s (k+4+(1+(d:Int)))%2=0 then(x,b.2.1 ++ [(x,0-y)],b.2.2)else(x,b.2.1,b.2.2 ++ [(x,y)])
def Cb(s:List Int)(k count:Int):Int×List Pt×List Pt:=(List.range (count-2).toNat).foldl (Fc s k count (Ad s (k+1)%4)) (0,[],[])
def ES(count:Int):List Pt:=(List.range count.toNat).map λj:Nat=>((j:Int),0-(j:Int)*(count-1-j))
def Cr(b:Int×List Pt×List Pt):List Pt:=[(0,0)]++b.2.1 ++ [(b.1+1,0)]++b.2.2.reverse
def Gx(s:List Int)(k count:Int):List Pt:=if Gd (Cr (Cb s k count))=true then ES count else Cr (Cb s k count)
structure K3(i:Nat)(b:Int×List Pt×List Pt):Prop where
 lo:0<=b.1
 hi:b.1<=4*i
 len:b.2.1.length+b.2.2.length=i
 bl:∀p∈b.2.1,Bd 500 p
 bh:∀p∈b.2.2,Bd 500 p
theorem nr{a b:Int}{n m:Int}(h1 : -n<=a)(h2:a<=n)(h3 : -m<=b)(h4:b<=m) : -(n*m)<=a*b/\a*b<=n*m:=by
 have hn:0<=n:=by lia
 have hm:0<=m:=by lia
 constructor
 ·rcases Int.le_total 0 a with ha|ha
  ·have e1:a*(-m)<=a*b:=Int.mul_le_mul_of_nonneg_left h3 ha;have e2:a*m<=n*m:=Int.mul_le_mul_of_nonneg_right h2 hm;rw[Int.mul_neg]at e1;lia
  ·have e1:a*m<=a*b:=Int.mul_le_mul_of_nonpos_left ha h4;have e2 : -n*m<=a*m:=Int.mul_le_mul_of_nonneg_right h1 hm;rw[Int.neg_mul]at e2;lia
 ·rcases Int.le_total 0 a with ha|ha
  ·have e1:a*b<=a*m:=Int.mul_le_mul_of_nonneg_left h4 ha;have e2:a*m<=n*m:=Int.mul_le_mul_of_nonneg_right h2 hm;lia
  ·have e1:a*b<=a*(-m):=Int.mul_le_mul_of_nonpos_left ha h3;have e2 : -n*m<=a*m:=Int.mul_le_mul_of_nonneg_right h1 hm;rw[Int.mul_neg]at e1;rw[Int.neg_mul]at e2;lia
theorem ak{s:List Int}{k count mode:Int}{i:Nat}{b:Int×List Pt×List Pt}(h1:3<=count)(h2:count<=12)(hi:(i:Int)<count-2)(h:K3 i b):K3 (i+1) (Fc s k count mode b i):=by
 obtain⟨x0,low,CK⟩:=b;obtain⟨lo,hh,len,bl,bh⟩:=h;dsimp only at lo hh len bl bh;have hx:∀x,x=(if mode=3 then 1+(i:Int)else x0+1+Ad s (k+4+(1+(i:Int))) / 2%4)->0<=x/\x<=4*((i:Int)+1):=λx e=>by
  subst e;split<;>lia
 have hy:∀y,y=(if mode=3 then(1+(i:Int))*(count-1-(1+(i:Int)))else 1+Ad s (k+4+(1+(i:Int))) / 8%9)->-121<=y/\y<=121:=λy e=>by
  subst e;split
  ·have:=nr (n:=11) (m:=11) (a:=1+(i:Int)) (b:=count-1-(1+(i:Int))) (by lia) (by lia) (by lia) (by lia);lia
  ·lia
 unfold Fc;dsimp only;generalize ex:(if mode=3 then 1+(i:Int)else x0+1+Ad s (k+4+(1+(i:Int))) / 2%4)=x;generalize ey:(if mode=3 then(1+(i:Int))*(count-1-(1+(i:Int)))else 1+Ad s (k+4+(1+(i:Int))) / 8%9)=y;have JI:=hx x ex.symm;have ly:=hy y ey.symm;split
 ·refine⟨JI.1,by push_cast;exact JI.2,by simp;lia,λp hp=>?_,bh⟩;rcases List.mem_append.mp hp with z|z
  ·exact bl p z
  ·rw[List.mem_singleton.mp z];unfold Bd;dsimp only;lia
 ·refine⟨JI.1,by push_cast;exact JI.2,by simp;lia,bl,λp hp=>?_⟩;rcases List.mem_append.mp hp with z|z
  ·exact bh p z
  ·rw[List.mem_singleton.mp z];unfold Bd;dsimp only;lia
theorem YJ{s:List Int}{k count mode:Int}(h1:3<=count)(h2:count<=12):∀n:Nat,(n:Int)<=count-2->K3 n ((List.range n).foldl (Fc s k count mode) (0,[],[]))
 |0,_=>⟨by simp,by simp,rfl,(λp hp=>by cases hp),(λp hp=>by cases hp)⟩
 |n+1,hn=>by
  rw[List.range_succ,List.foldl_append];exact ak h1 h2 (by lia) (YJ h1 h2 n (by lia))
theorem aj(s:List Int)(k:Int){count:Int}(h1:3<=count)(h2:count<=12):K3 (count-2).toNat (Cb s k count):=YJ h1 h2 _ (by lia)
theorem Qf(b:Int×List Pt×List Pt):(Cr b).length=b.2.1.length+b.2.2.length+2:=by simp[Cr];lia
theorem ri{i:Nat}{b:Int×List Pt×List Pt}(h:K3 i b)(hi:i<=100):∀p∈Cr b,Bd 1000 p:=λp hp=>by
 unfold Cr at hp;simp only[List.mem_append,List.mem_singleton,List.mem_reverse]at hp;have:=h.lo;have:=h.hi;rcases hp with((rfl|hp)|rfl)|hp
 ·unfold Bd;lia
 ·have:=h.bl p hp;unfold Bd at *;lia
 ·unfold Bd;dsimp only;lia
 ·have:=h.bh p hp;unfold Bd at *;lia
theorem Kh(a b:List Pt):AK (a++b)=AK a++AK b:=List.map_append ..
theorem ZO(l:List Pt)(p:Pt)(h:l.length<1000):DS (AK l) [pv p]=some (AK (l ++ [p])):=by
 unfold DS;dsimp only;rw[if_pos (by rw[Dx];exact h),Kh]
 rfl
theorem QB{i:Nat}{k:List PV->List PV->Option (List PV)}{ga:AF}{ρ:AZ}{ps qs Es:List PV}{rs:List RV}(h:ρ[i]? = some (some (.own ps)))(e:ga ρ=some rs)(c:DW rs=some qs)(ek:k ps qs=some Es):Cy i k ga ρ=some (.nx (ρ.set i (some (.own Es)))):=by
 unfold Cy;rw[h,e];dsimp only;rw[c];dsimp only;rw[ek]
theorem Lk{x y:RV}{xs ys:List PV}(hx:x.list=some xs)(hy:y.list=some ys)(h:xs.length+ys.length<=1000):Ac x y=some (.fr (xs++ys)):=by
 have hc:Nd x y=some (.fr (xs++ys)):=by
  unfold Nd;rw[hx,hy];dsimp only;rw[if_pos h]
 unfold Ac;split
 ·rename_i i j;cases hx
 ·exact hc
theorem X5{f:EF}{ρ:AZ}{r:RV}{ps:List PV}(e:f ρ=some r)(h:r.list=some ps):HN f ρ=some (.fr ps.reverse):=by unfold HN;rw[e];dsimp only;rw[h]
theorem eO(s:List Int)(k count:Int)(h0:0<=k)(h1:3<=count)(h2:count<=12):OW [.rd (A5 s),.int k,.int count]=some (.cl (.lst (AK (Gx s k count)))):=by
 refine CT rfl ?_;unfold XT;rw[sq (Bc (EU 4 (HM (s:=s) (k:=k+1) rfl rfl (by lia))) rfl),sq (Bc (r:=.cl (.int 0)) rfl rfl),sq (set_own (ps:=[]) rfl),sq (set_own (ps:=[]) rfl)];generalize lK:Ad s (k+1)%4=mode;have lI:Cb s k count=(List.range (count-2).toNat).foldl (Fc s k count mode) (0,[],[]):=by unfold Cb;rw[lK]
 show AQ _ _ [some (.im (.rd (A5 s))),some (.im (.int k)),some (.im (.int count)),some (.im (.int mode)),some (.im (.int 0)),some (.own []),some (.own []),none,none,none,none]=_;have I0:El (AD (fC (.int 1)) (AD (f2 Aj (AB 2) (fC (.int 1))) AI)) [some (.im (.rd (A5 s))),some (.im (.int k)),some (.im (.int count)),some (.im (.int mode)),some (.im (.int 0)),some (.own []),some (.own []),none,none,none,none]=some ((List.range (count-2).toNat).map λd:Nat=>PV.int (1+(d:Int))):=by
  unfold El;rw[show AD (fC (.int 1)) (AD (f2 Aj (AB 2) (fC (.int 1))) AI) [some (.im (.rd (A5 s))),some (.im (.int k)),some (.im (.int count)),some (.im (.int mode)),some (.im (.int 0)),some (.own []),some (.own []),none,none,none,none]=some [.cl (.int 1),.cl (.int (count-1))]from rfl];dsimp only;rw[if_pos ⟨⟨by lia,by lia⟩,⟨by lia,by lia⟩⟩,bY,show(count-1-1).toNat=(count-2).toNat by lia]
 obtain⟨ρ',e,⟨a7,a8,a9,rfl⟩,A2⟩:=Nj (enc:=λd:Nat=>PV.int (1+(d:Int))) (gt:=Ag 7) (body:=(AQ (Ai 8 (AU Ck (AD (AB 0) (AD (f2 Ac (f2 Ac (AB 1) (fC (.int 4))) (AB 7)) AI))))
  (AQ (Ai 4 (f2 Ac (f2 Ac (AB 4) (fC (.int 1))) (f2 BI (f2 C6 (AB 8) (fC (.int 2))) (fC (.int 4)))))
  (AQ (Ai 9 (f2 Ac (fC (.int 1)) (f2 BI (f2 C6 (AB 8) (fC (.int 8))) (fC (.int 9)))))
  (AQ (Ax (AS (f2 CP (AB 3) (fC (.int 3)))) (AQ (Ai 4 (AB 7))
  (Ai 9 (f2 C7 (AB 7) (f2 Aj (f2 Aj (AB 2) (fC (.int 1))) (AB 7))))) A8)
  (Ax (AS (f2 CP (f2 BI (AB 8) (fC (.int 2))) (fC (.int 0)))) (Cy 5 DS (AD (A7 (AD (AB 4) (AD (f2 Aj (fC (.int 0)) (AB 9)) AI))) AI)) (Cy 6 DS (AD (A7 (AD (AB 4) (AD (AB 9) AI))) AI))))))))
  (Fc s k count mode) (λi b ρ=>(∃a7 a8 a9,ρ=[some (.im (.rd (A5 s))),some (.im (.int k)),some (.im (.int count)),some (.im (.int mode)),some (.im (.int b.1)),some (.own (AK b.2.1)),some (.own (AK b.2.2)),a7,a8,a9,none])/\K3 i b)
  (xs:=List.range (count-2).toNat) (n:=0) (b:=(0,[],[])) ⟨⟨none,none,none,rfl⟩,by simp,by simp,rfl,(λp hp=>by cases hp),(λp hp=>by cases hp)⟩ (by
  rintro i d hd b ρ ⟨⟨a7,a8,a9,rfl⟩,A2⟩;have ku:i<(count-2).toNat:=by
   have:=(List.getElem?_eq_some_iff.mp hd).1;simpa using this
  have Pe:d=i:=by
   have:=(List.getElem?_eq_some_iff.mp hd).2;simpa using this.symm
  subst Pe;rw[Nat.zero_add]at A2;have Tp:=ak (s:=s) (k:=k) (mode:=mode) h1 h2 (by lia) A2;have CO:=A2.len;obtain⟨x0,low,CK⟩:=b;refine⟨_,[some (.im (.rd (A5 s))),some (.im (.int k)),some (.im (.int count)),some (.im (.int mode)),some (.im (.int (Fc s k count mode (x0,low,CK) d).1)),some (.own (AK (Fc s k count mode (x0,low,CK) d).2.1)),some (.own (AK (Fc s k count mode (x0,low,CK) d).2.2)),some (.im (.int (1+(d:Int)))),some (.im (.int (Ad s (k+4+(1+(d:Int)))))),some (.im (.int (if mode=3 then(1+(d:Int))*(count-1-(1+(d:Int)))else 1+Ad s (k+4+(1+(d:Int))) / 8%9))),none],rfl,?_,⟨_,_,_,rfl⟩,by rw[Nat.zero_add];exact Tp⟩;dsimp only at CO;unfold Fc;dsimp only;rw[sq (Bc (HM (s:=s) (k:=k+4+(1+(d:Int))) rfl rfl (by lia)) rfl)];generalize Ad s (k+4+(1+(d:Int)))=c;rw[sq (Bc (HL (i:=x0+1) (j:=c / 2%4) rfl (EU 4 (Gb 2 rfl))) rfl),sq (Bc (HL (i:=1) (j:=c / 8%9) rfl (EU 9 (Gb 8 rfl))) rfl)];show AQ _ _ [some (.im (.rd (A5 s))),some (.im (.int k)),some (.im (.int count)),some (.im (.int mode)),some (.im (.int (x0+1+c / 2%4))),some (.own (AK low)),some (.own (AK CK)),some (.im (.int (1+(d:Int)))),some (.im (.int c)),some (.im (.int (1+c / 8%9))),none]=_;have em:=J4 (f:=AB 3) (ρ:=[some (.im (.rd (A5 s))),some (.im (.int k)),some (.im (.int count)),some (.im (.int mode)),some (.im (.int (x0+1+c / 2%4))),some (.own (AK low)),some (.own (AK CK)),some (.im (.int (1+(d:Int)))),some (.im (.int c)),some (.im (.int (1+c / 8%9))),none]) (i:=mode) 3 rfl;have fin:∀x y:Int,Ax (AS (f2 CP (f2 BI (AB 8) (fC (.int 2))) (fC (.int 0)))) (Cy 5 DS (AD (A7 (AD (AB 4) (AD (f2 Aj (fC (.int 0)) (AB 9)) AI))) AI)) (Cy 6 DS (AD (A7 (AD (AB 4) (AD (AB 9) AI))) AI)) [some (.im (.rd (A5 s))),some (.im (.int k)),some (.im (.int count)),some (.im (.int mode)),some (.im (.int x)),some (.own (AK low)),some (.own (AK CK)),some (.im (.int (1+(d:Int)))),some (.im (.int c)),some (.im (.int y)),none] = some (.nx [some (.im (.rd (A5 s))),some (.im (.int k)),some (.im (.int count)),some (.im (.int mode)),some (.im (.int (if c%2=0 then(x,low ++ [(x,0-y)],CK)else(x,low,CK ++ [(x,y)])).1)),some (.own (AK (if c%2=0 then(x,low ++ [(x,0-y)],CK)else(x,low,CK ++ [(x,y)])).2.1)),some (.own (AK (if c%2=0 then(x,low ++ [(x,0-y)],CK)else(x,low,CK ++ [(x,y)])).2.2)),some (.im (.int (1+(d:Int)))),some (.im (.int c)),some (.im (.int y)),none]):=λx y=>by
   have ec:=J4 (f:=f2 BI (AB 8) (fC (.int 2))) (ρ:=[some (.im (.rd (A5 s))),some (.im (.int k)),some (.im (.int count)),some (.im (.int mode)),some (.im (.int x)),some (.own (AK low)),some (.own (AK CK)),some (.im (.int (1+(d:Int)))),some (.im (.int c)),some (.im (.int y)),none]) (i:=c%2) 0 (EU 2 rfl);by_cases hc:c%2=0
   ·rw[show(c%2==0)=true by simp[hc]]at ec;rw[CZ ec,if_pos hc];exact QB rfl (AO (x:=.cl (pv (x,0-y))) rfl (Af _)) rfl (ZO low _ (by lia))
   ·rw[show(c%2==0)=false by simp[hc]]at ec;rw[Bw ec,if_neg hc];exact QB rfl (AO (x:=.cl (pv (x,y))) rfl (Af _)) rfl (ZO CK _ (by lia))
  by_cases hm:mode=3
  ·rw[show(mode==3)=true by simp[hm]]at em;simp only[if_pos hm];refine Eq.trans (sq ((CZ em).trans ?_)) (fin _ _);refine(sq (Bc (r:=.cl (.int (1+(d:Int)))) rfl rfl)).trans ?_;refine(Bc (AR (x:=.cl (.int (1+(d:Int)))) (y:=.cl (.int (count-1-(1+(d:Int))))) rfl rfl (Gr (GV (by lia)))) rfl)
  ·rw[show(mode==3)=false by simp[hm]]at em;simp only[if_neg hm];exact(sq ((Bw em).trans rfl)).trans (fin _ _))
 rw[sq ((DR I0).trans e),<-lI];have Yy:=aj s k h1 h2;have CO:=Yy.len;have xj:=Qf (Cb s k count);have jL:f2 Ac (f2 Ac (f2 Ac (B9 (AD (A7 (AD (fC (.int 0)) (AD (fC (.int 0)) AI))) AI)) (AB 5)) (B9 (AD (A7 (AD (f2 Ac (AB 4) (fC (.int 1))) (AD (fC (.int 0)) AI))) AI))) (HN (AB 6)) [some (.im (.rd (A5 s))),some (.im (.int k)),some (.im (.int count)),some (.im (.int mode)),some (.im (.int (Cb s k count).1)),some (.own (AK (Cb s k count).2.1)),some (.own (AK (Cb s k count).2.2)),a7,a8,a9,none]=some (.fr (AK (Cr (Cb s k count)))):=by
  have l1:=Dx (Cb s k count).2.1;have l2:=Dx (Cb s k count).2.2;refine(AR (AR (AR (x:=.fr [pv (0,0)]) (y:=.bo (AK (Cb s k count).2.1)) rfl rfl (Lk rfl rfl (by simp;lia))) (y:=.fr [pv ((Cb s k count).1+1,0)]) rfl (Lk rfl rfl (by simp;lia))) (X5 rfl rfl) (Lk rfl rfl (by simp;lia))).trans ?_;unfold Cr;rw[Kh,Kh,Kh]
  congr 2
  unfold AK;rw[List.map_reverse]
  rfl
 rw[sq (Bc jL rfl)];show AQ _ _ [some (.im (.rd (A5 s))),some (.im (.int k)),some (.im (.int count)),some (.im (.int mode)),some (.im (.int (Cb s k count).1)),some (.own (AK (Cb s k count).2.1)),some (.own (AK (Cb s k count).2.2)),a7,a8,a9,some (.im (.lst (AK (Cr (Cb s k count)))))]=_;have ef:=BG (BY (ρ:=[some (.im (.rd (A5 s))),some (.im (.int k)),some (.im (.int count)),some (.im (.int mode)),some (.im (.int (Cb s k count).1)),some (.own (AK (Cb s k count).2.1)),some (.own (AK (Cb s k count).2.2)),a7,a8,a9,some (.im (.lst (AK (Cr (Cb s k count)))))]) (AO (f:=AB 10) rfl (Af _)) rfl (V4 (r:=Cr (Cb s k count)) (by lia) (by lia) (ri Yy (by lia))));unfold Gx;cases hf:Gd (Cr (Cb s k count))with
 |false=>
  rw[hf]at ef;rw[if_neg (by simp)];exact(sq ((Bw ef).trans rfl)).trans rfl
 |true=>
  rw[hf]at ef;rw[if_pos rfl];have kc:count=(count.toNat:Int):=by lia
  have eb:Bt (CI (AD (AB 2) AI)) 1 [2] (Ag 0) B6 (A7 (AD (AB 0) (AD (f2 Aj (fC (.int 0)) (f2 C7 (AB 0) (f2 Aj (f2 Aj (AB 1) (fC (.int 1))) (AB 0)))) AI))) [some (.im (.rd (A5 s))),some (.im (.int k)),some (.im (.int count)),some (.im (.int mode)),some (.im (.int (Cb s k count).1)),some (.own (AK (Cb s k count).2.1)),some (.own (AK (Cb s k count).2.2)),a7,a8,a9,some (.im (.lst (AK (Cr (Cb s k count)))))]=some (.fr (AK (ES count))):=by
   refine EX (EY (n:=count.toNat) (by rw[<-kc];rfl) (by lia)) (by simp;lia) ?_;unfold ES AK;rw[List.map_map];refine Ij (h:=pv∘λj:Nat=>((j:Int),0-(j:Int)*(count-1-j))) λj hj=>⟨_,.cl (pv ((j:Int),0-(j:Int)*(count-1-j))),rfl,?_,rfl⟩;have Cz:=List.mem_range.mp hj;exact J6 (AO (x:=.cl (.int (j:Int))) rfl (AO (LW (i:=0) rfl (AR (x:=.cl (.int (j:Int))) (y:=.cl (.int (count-1-j))) rfl rfl (Gr (GV (by lia))))) (Af _))) rfl
  exact(sq ((CZ ef).trans (Bc eb rfl))).trans rfl
def wx(s:List Int)(k:Int):Nat->Int
 |0=>0
 |i+1=>wx s k i+1+Ad s (k+5+(i:Int))%4
def wy(s:List Int)(k:Int):Nat->Int
 |0=>0
 |i+1=>wy s k i+1+Ad s (k+5+(i:Int)) / 4%4
def MI(s:List Int)(k:Int):List Pt:=
 [(wx s k 0,wy s k 0),(wx s k 5,wy s k 0),(wx s k 5,wy s k 5),(wx s k 1,wy s k 5),(wx s k 1,wy s k 2),(wx s k 3,wy s k 2),(wx s k 3,wy s k 3),(wx s k 2,wy s k 3),(wx s k 2,wy s k 4),(wx s k 4,wy s k 4),(wx s k 4,wy s k 1),(wx s k 0,wy s k 1)]
def upTo(f:Nat->Int)(n:Nat):List PV:=(List.range (n+1)).map λi=>PV.int (f i)
theorem dH(f:Nat->Int)(n:Nat):upTo f (n+1)=upTo f n ++ [.int (f (n+1))]:=by unfold upTo;rw[List.range_succ,List.map_append];rfl
theorem dG(f:Nat->Int)(n:Nat):AM (.bo (upTo f n)) (.cl (.int (-1)))=some (.cl (.int (f n))):=by
 show(DD (upTo f n) (-1)).map _=_;have:DD (upTo f n) (-1)=some (.int (f n)):=by
  have hl:(upTo f n).length=n+1:=by simp[upTo]
  unfold DD Ha;rw[hl,if_neg (by lia),if_pos (by lia),show(-1+((n+1:Nat):Int)).toNat=n by lia];simp[upTo]
 rw[this];rfl
theorem ZN(l:List PV)(p:PV)(h:l.length<1000):DS l [p]=some (l ++ [p]):=by
 unfold DS;dsimp only;rw[if_pos h]
theorem eZ(s:List Int)(k:Int)(h0:0<=k):MS [.rd (A5 s),.int k]=some (.fr (AK (MI s k))):=by
 refine CT rfl ?_;unfold XY;rw[sq (set_own (ps:=[.int 0]) rfl),sq (set_own (ps:=[.int 0]) rfl)];show AQ _ _ [some (.im (.rd (A5 s))),some (.im (.int k)),some (.own [.int 0]),some (.own [.int 0]),none,none,none]=_;have I0:CI (AD (fC (.int 5)) AI) [some (.im (.rd (A5 s))),some (.im (.int k)),some (.own [.int 0]),some (.own [.int 0]),none,none,none]=some ((List.range 5).map λd:Nat=>PV.int (d:Int)):=EY (n:=5) rfl (by lia);obtain⟨ρ',e,a4,a5,rfl⟩:=Nj (enc:=λd:Nat=>PV.int (d:Int)) (gt:=Ag 4) (body:=(AQ (Ai 5 (AU Ck (AD (AB 0) (AD (f2 Ac (f2 Ac (AB 1) (fC (.int 5))) (AB 4)) AI))))
  (AQ (Cy 2 DS (AD (f2 Ac (f2 Ac (f2 AM (AB 2) (LX (fC (.int 1)))) (fC (.int 1))) (f2 BI (AB 5) (fC (.int 4)))) AI))
  (Cy 3 DS (AD (f2 Ac (f2 Ac (f2 AM (AB 3) (LX (fC (.int 1)))) (fC (.int 1))) (f2 BI (f2 C6 (AB 5) (fC (.int 4))) (fC (.int 4)))) AI)))))
  (λ(u:Unit)(_:Nat)=>u) (λi _ ρ=>∃a4 a5,ρ=[some (.im (.rd (A5 s))),some (.im (.int k)),some (.own (upTo (wx s k) i)),some (.own (upTo (wy s k) i)),a4,a5,none]) (xs:=List.range 5) (n:=0) (b:=()) ⟨none,none,rfl⟩ (by
  rintro i d hd _ ρ ⟨a4,a5,rfl⟩;have Pe:d=i:=by
   have:=(List.getElem?_eq_some_iff.mp hd).2;simpa using this.symm
  have ku:i<5:=by
   have:=(List.getElem?_eq_some_iff.mp hd).1;simpa using this
  subst Pe;rw[Nat.zero_add];have HW:(upTo (wx s k) d).length=d+1:=by simp[upTo]
  have KP:(upTo (wy s k) d).length=d+1:=by simp[upTo]
  refine⟨_,[some (.im (.rd (A5 s))),some (.im (.int k)),some (.own (upTo (wx s k) (d+1))),some (.own (upTo (wy s k) (d+1))),some (.im (.int d)),some (.im (.int (Ad s (k+5+(d:Int))))),none],rfl,?_,_,_,rfl⟩;rw[sq (Bc (HM (s:=s) (k:=k+5+(d:Int)) rfl rfl (by lia)) rfl)];rw[dH,dH,wx,wy];generalize Ad s (k+5+(d:Int))=c;refine(sq (QB (ps:=upTo (wx s k) d) rfl (AO (HL (HL (AR rfl rfl (dG _ _)) rfl) (EU 4 (i:=c) rfl)) (Af _)) rfl (ZN _ _ (by lia)))).trans ?_;exact(QB (ps:=upTo (wy s k) d) rfl (AO (HL (HL (AR rfl rfl (dG _ _)) rfl) (EU 4 (Gb 4 (i:=c) rfl))) (Af _)) rfl (ZN _ _ (by lia))))
 rw[sq ((DR I0).trans e)];refine(sq (Bc (r:=.fr [.tup [.int 0,.int 0],.tup [.int 5,.int 0],.tup [.int 5,.int 5],.tup [.int 1,.int 5],.tup [.int 1,.int 2],.tup [.int 3,.int 2],.tup [.int 3,.int 3],.tup [.int 2,.int 3],.tup [.int 2,.int 4],.tup [.int 4,.int 4],.tup [.int 4,.int 1],.tup [.int 0,.int 1]]) rfl rfl)).trans ?_;exact Uj rfl
theorem gu(r:List Pt)(n:Nat)(h:n<=r.length):Im (AK r) none (some (n:Int))=AK (r.take n):=by
 unfold Im;rw[HT.Ur,HT.Uq,Dx,List.drop_zero,Nat.sub_zero,Nat.min_eq_left h,AK,AK,List.map_take]
theorem gr(r:List Pt)(n:Nat)(h:n<=r.length):Im (AK r) (some (n:Int)) none=AK (r.drop n):=by
 unfold Im;rw[HT.Ur,HT.Uq,Dx,Nat.min_eq_left h,List.take_of_length_le (by simp[AK]),AK,AK,List.map_drop]
theorem X6{f g:EF}{ρ:AZ}{rv:RV}{r:List Pt}{n:Nat}(e:f ρ=some rv)(hr:rv.list=some (AK r))(e2:g ρ=some (.cl (.int (n:Int))))(h:n<=r.length):Dk f Dv (Dj g) ρ=some (.fr (AK (r.take n))):=by
 unfold Dk Dv Dj;rw[e,e2];dsimp only;rw[hr];dsimp only;rw[gu r n h]
theorem X0{f g:EF}{ρ:AZ}{rv:RV}{r:List Pt}{n:Nat}(e:f ρ=some rv)(hr:rv.list=some (AK r))(e2:g ρ=some (.cl (.int (n:Int))))(h:n<=r.length):Dk f (Dj g) Dv ρ=some (.fr (AK (r.drop n))):=by
 unfold Dk Dv Dj;rw[e,e2];dsimp only;rw[hr];dsimp only;rw[gr r n h]
def DT(r:List Pt)(c:Int):Nat:=(c%(r.length:Int)).toNat
theorem QR{r:List Pt}(h:0<r.length)(c:Int):DT r c<r.length:=by
 have h1:=Int.emod_nonneg c (b:=(r.length:Int)) (by lia);have h2:=Int.emod_lt_of_pos c (b:=(r.length:Int)) (by lia);unfold DT;lia
theorem aq{r:List Pt}(h:0<r.length)(c:Int):c%(r.length:Int)=(DT r c:Int):=by
 have h1:=Int.emod_nonneg c (b:=(r.length:Int)) (by lia);unfold DT;lia
def FE(r:List Pt)(c:Int):Pt:=((AA r (DT r c)).1+c / 16%33-16,(AA r (DT r c)).2+c / 1024%33-16)
def Gy(r:List Pt)(c:Int):List Pt:=r.take (DT r c) ++ [FE r c]++r.drop (DT r c+1)
def L8(s:List Int)(k:Int)(r:List Pt)(d:Nat):List Pt:=
 let c:=Ad s (k+15+(d:Int))
 if(decide (max (Dl (FE r c).1) (Dl (FE r c).2)<80)&&KH (Gy r c))=true then Gy r c else r
def L7(s:List Int)(k:Int)(r:List Pt):List Pt:=(List.range (Ad s (k+1) / 4%5).toNat).foldl (L8 s k) r
theorem rG{r:List Pt}(h:0<r.length)(c:Int):(Gy r c).length=r.length:=by
 have:=QR h c;unfold Gy;simp only[List.length_append,List.length_take,List.length_cons,List.length_nil,List.length_drop];lia
theorem eT(s:List Int)(k:Int)(h0:0<=k){r:List Pt}(h1:0<r.length)(h2:r.length<=100):OX [.rd (A5 s),.int k,.lst (AK r)]=some (.cl (.lst (AK (L7 s k r))))/\(L7 s k r).length=r.length:=by
 have hn:Ad s (k+1) / 4%5=((Ad s (k+1) / 4%5).toNat:Int):=by lia
 have I0:CI (AD (f2 BI (f2 C6 (AU Ck (AD (AB 0) (AD (f2 Ac (AB 1) (fC (.int 1))) AI))) (fC (.int 4))) (fC (.int 5))) AI) (BX 9 [.rd (A5 s),.int k,.lst (AK r)])=some ((List.range (Ad s (k+1) / 4%5).toNat).map λd:Nat=>PV.int (d:Int)):=
  EY (AO (by rw[<-hn];exact EU 5 (Gb 4 (HM (s:=s) (k:=k+1) rfl rfl (by lia)))) (Af _)) (by lia)
 obtain⟨ρ',e,⟨a3,a4,a5,a6,a7,a8,rfl⟩,CO⟩:=UD (enc:=λd:Nat=>PV.int (d:Int)) (gt:=Ag 3) (body:=(AQ (Ai 4 (AU Ck (AD (AB 0) (AD (f2 Ac (f2 Ac (AB 1) (fC (.int 15))) (AB 3)) AI))))
  (AQ (Ai 5 (f2 BI (AB 4) (fB Az (AD (AB 2) AI))))
  (AQ (Ai 6 (f2 Aj (f2 Ac (f2 AM (f2 AM (AB 2) (AB 5)) (fC (.int 0))) (f2 BI (f2 C6 (AB 4) (fC (.int 16))) (fC (.int 33)))) (fC (.int 16))))
  (AQ (Ai 7 (f2 Aj (f2 Ac (f2 AM (f2 AM (AB 2) (AB 5)) (fC (.int 1))) (f2 BI (f2 C6 (AB 4) (fC (.int 1024))) (fC (.int 33)))) (fC (.int 16))))
  (AQ (Ai 8 (f2 Ac (f2 Ac (Dk (AB 2) Dv (Dj (AB 5))) (B9 (AD (A7 (AD (AB 6) (AD (AB 7) AI))) AI))) (Dk (AB 2) (Dj (f2 Ac (AB 5) (fC (.int 1)))) Dv)))
  (Ax (Cd (AS (f2 CM (fB FA (AD (fB Dw (AD (AB 6) AI)) (AD (fB Dw (AD (AB 7) AI)) AI))) (fC (.int 80)))) (AS (AU Ky (AD (AB 8) AI)))) (Ai 2 (AB 8)) A8)))))))
  (L8 s k) (λ(q:List Pt) ρ=>(∃a3 a4 a5 a6 a7 a8,ρ=[some (.im (.rd (A5 s))),some (.im (.int k)),some (.im (.lst (AK q))),a3,a4,a5,a6,a7,a8])/\q.length=r.length) (xs:=List.range (Ad s (k+1) / 4%5).toNat) (b:=r) (ρ:=BX 9 [.rd (A5 s),.int k,.lst (AK r)]) ⟨⟨none,none,none,none,none,none,rfl⟩,rfl⟩ (by
  rintro d hd q ρ ⟨⟨a3,a4,a5,a6,a7,a8,rfl⟩,hq⟩;have IC:=List.mem_range.mp hd;have Ts:0<q.length:=by lia
  unfold L8;dsimp only;have Xs:=HM (f:=AB 0) (g:=f2 Ac (f2 Ac (AB 1) (fC (.int 15))) (AB 3)) (ρ:=[some (.im (.rd (A5 s))),some (.im (.int k)),some (.im (.lst (AK q))),some (.im (.int d)),a4,a5,a6,a7,a8]) (s:=s) (k:=k+15+(d:Int)) rfl rfl (by lia);generalize Ad s (k+15+(d:Int))=c at Xs ⊢;have hp:=QR Ts c;have NR:=aq Ts c;have hx:AM (.cl (.lst (AK q))) (.cl (.int (DT q c:Int)))=some (.cl (pv (AA q (DT q c)))):=DK q _ (by lia) (by lia);have lF:=Dx q;have lh:=rG Ts c;have pre:∀h:SF,AQ (Ai 4 (AU Ck (AD (AB 0) (AD (f2 Ac (f2 Ac (AB 1) (fC (.int 15))) (AB 3)) AI)))) (AQ (Ai 5 (f2 BI (AB 4) (fB Az (AD (AB 2) AI)))) (AQ (Ai 6 (f2 Aj (f2 Ac (f2 AM (f2 AM (AB 2) (AB 5)) (fC (.int 0))) (f2 BI (f2 C6 (AB 4) (fC (.int 16))) (fC (.int 33)))) (fC (.int 16)))) (AQ (Ai 7 (f2 Aj (f2 Ac (f2 AM (f2 AM (AB 2) (AB 5)) (fC (.int 1))) (f2 BI (f2 C6 (AB 4) (fC (.int 1024))) (fC (.int 33)))) (fC (.int 16)))) (AQ (Ai 8 (f2 Ac (f2 Ac (Dk (AB 2) Dv (Dj (AB 5))) (B9 (AD (A7 (AD (AB 6) (AD (AB 7) AI))) AI))) (Dk (AB 2) (Dj (f2 Ac (AB 5) (fC (.int 1)))) Dv))) h))))
    [some (.im (.rd (A5 s))),some (.im (.int k)),some (.im (.lst (AK q))),some (.im (.int d)),a4,a5,a6,a7,a8] =
    h [some (.im (.rd (A5 s))),some (.im (.int k)),some (.im (.lst (AK q))),some (.im (.int d)),some (.im (.int c)),some (.im (.int (DT q c:Int))),some (.im (.int (FE q c).1)),some (.im (.int (FE q c).2)),some (.im (.lst (AK (Gy q c))))]:=λh=>by
   rw[sq (Bc Xs rfl)];refine(sq (Bc (r:=.cl (.int (DT q c:Int))) (by
    rw[<-NR,<-lF];exact AR (x:=.cl (.int c)) (y:=.cl (.int ((AK q).length:Int))) rfl rfl (GA (by lia))) rfl)).trans ?_
   refine(sq (Bc (LW (HL (AR (AR rfl rfl hx) rfl (E9 _)) (EU 33 (Gb 16 (i:=c) rfl))) rfl) rfl)).trans ?_;refine(sq (Bc (LW (HL (AR (AR rfl rfl hx) rfl (EA _)) (EU 33 (Gb 1024 (i:=c) rfl))) rfl) rfl)).trans ?_;refine(sq (Bc (AR (AR (X6 (rv:=.cl (.lst (AK q))) (n:=DT q c) rfl rfl rfl (by lia)) (y:=.fr [pv (FE q c)]) rfl (Lk rfl rfl (by simp[AK];lia))) (X0 (rv:=.cl (.lst (AK q))) (n:=DT q c+1) rfl rfl rfl (by lia)) (Lk rfl rfl (by simp[AK];lia))) rfl)).trans ?_;unfold Gy;rw[Kh,Kh]
   rfl
  have et:(Cd (AS (f2 CM (fB FA (AD (fB Dw (AD (AB 6) AI)) (AD (fB Dw (AD (AB 7) AI)) AI))) (fC (.int 80)))) (AS (AU Ky (AD (AB 8) AI)))) [some (.im (.rd (A5 s))),some (.im (.int k)),some (.im (.lst (AK q))),some (.im (.int d)),some (.im (.int c)),some (.im (.int (DT q c:Int))),some (.im (.int (FE q c).1)),some (.im (.int (FE q c).2)),some (.im (.lst (AK (Gy q c))))] = some (decide (max (Dl (FE q c).1) (Dl (FE q c).2)<80)&&KH (Gy q c)):=
   Ir (BG (AR (DX (AO (DX (AO rfl (Af _)) (Nc _)) (AO (DX (AO rfl (Af _)) (Nc _)) (Af _))) (JO _ _)) rfl (FY _ _))) λ_=>BG (BY (AO rfl (Af _)) rfl (dy (by lia)))
  cases hb:(decide (max (Dl (FE q c).1) (Dl (FE q c).2)<80)&&KH (Gy q c))with
  |true=>
   rw[hb]at et;rw[if_pos rfl];exact⟨_,_,rfl,(pre _).trans ((CZ et).trans (Bc (r:=.cl (.lst (AK (Gy q c)))) rfl rfl)),⟨_,_,_,_,_,_,rfl⟩,by lia⟩
  |false=>
   rw[hb]at et;rw[if_neg (by simp)];exact⟨_,_,rfl,(pre _).trans ((Bw et).trans rfl),⟨_,_,_,_,_,_,rfl⟩,hq⟩)
 refine⟨CT rfl ?_,CO⟩;unfold XU;exact(sq ((DR I0).trans e)).trans rfl
def Hg(z:Int)(p:Pt):Pt:=(p.1+z*p.2,p.2)
def J9(p:Pt):Pt:=(0-p.1,p.2)
def KA(p:Pt):Pt:=(p.1,0-p.2)
def Kr(p:Pt):Pt:=(p.2,p.1)
def JQ(x y:Int)(p:Pt):Pt:=(p.1+x,p.2+y)
def EE(s:List Int)(k most:Int):List Pt:=if most=12/\Ad s (k+1) / 20%6=5 then MI s k else Gx s k (3+Ad s k%(most-2))
def D1(s:List Int)(k:Int):Int:=Ad s (k+2) / 8%3-1
def FF(s:List Int)(k most:Int):List Pt:=L7 s k ((EE s k most).map (Hg (D1 s k)))
def Hh(s:List Int)(k:Int)(r:List Pt):List Pt:=if Ad s (k+2)%8%2=1 then(r.map J9).reverse else r
def Ku(s:List Int)(k:Int)(r:List Pt):List Pt:=if Ad s (k+2)%8 / 2%2=1 then(r.map KA).reverse else r
def RB(s:List Int)(k:Int)(r:List Pt):List Pt:=if Ad s (k+2)%8 / 4=1 then(r.map Kr).reverse else r
def DB(s:List Int)(k most:Int):List Pt:=RB s k (Ku s k (Hh s k (FF s k most)))
def IQ(r:List Pt)(n:Nat):List Pt:=r.drop n++r.take n
def drawn(s:List Int)(k most:Int):List Pt:=(IQ (DB s k most) (DT (DB s k most) (Ad s (k+3)))).map (JQ (Ad s (k+3) / 16%41-20) (Ad s (k+4)%41-20))
theorem qj(s:List Int)(k:Int){count:Int}(h1:3<=count)(h2:count<=12):((Gx s k count).length:Int)=count:=by
 have h:=(aj s k h1 h2).len;unfold Gx;split
 ·simp[ES];lia
 ·rw[Qf];lia
theorem ff(s:List Int)(k:Int){most:Int}(h1:3<=most)(h2:most<=12):3<=(EE s k most).length/\((EE s k most).length:Int)<=most:=by
 unfold EE;split
 ·rename_i h;simp[MI];lia
 ·have a:=Int.emod_nonneg (Ad s k) (b:=most-2) (by lia);have b:=Int.emod_lt_of_pos (Ad s k) (b:=most-2) (by lia);have:=qj s k (count:=3+Ad s k%(most-2)) (by lia) (by lia);lia
theorem Vm(s:List Int)(k:Int)(r:List Pt):(Hh s k r).length=r.length:=by unfold Hh;split<;>simp
theorem dB(s:List Int)(k:Int)(r:List Pt):(Ku s k r).length=r.length:=by unfold Ku;split<;>simp
theorem uq(s:List Int)(k:Int)(r:List Pt):(RB s k r).length=r.length:=by unfold RB;split<;>simp
theorem rf(r:List Pt)(q:Pt->Pt):(r.map (pv∘q)).reverse=AK ((r.map q).reverse):=by
 unfold AK;rw[List.map_reverse,List.map_map]
theorem eX(s:List Int)(k most:Int)(h0:0<=k)(h1:3<=most)(h2:most<=12):OY [.rd (A5 s),.int k,.int most]=some (.fr (AK (drawn s k most)))/\3<=(drawn s k most).length/\((drawn s k most).length:Int)<=most:=by
 have hb:=ff s k h1 h2;have Y3:=eT s k h0 (r:=(EE s k most).map (Hg (D1 s k))) (by simp;lia) (by simp;lia);have B7:(FF s k most).length=(EE s k most).length:=by rw[FF,Y3.2,List.length_map]
 have lh:(DB s k most).length=(EE s k most).length:=by rw[DB,uq,dB,Vm,B7]
 have TQ:(drawn s k most).length=(EE s k most).length:=by
  unfold drawn IQ;simp only[List.length_map,List.length_append,List.length_drop,List.length_take];lia
 refine⟨?_,by lia,by lia⟩;refine CT rfl ?_;unfold XW;have em:=Int.emod_nonneg (Ad s k) (b:=most-2) (by lia);have xP:=Int.emod_lt_of_pos (Ad s k) (b:=most-2) (by lia);rw[sq (Bc (HM (s:=s) (k:=k) rfl rfl h0) rfl)];rw[sq (Bc (BY (AO (x:=.cl (.rd (A5 s))) rfl (AO (x:=.cl (.int k)) rfl (AO (HL (i:=3) rfl (AR (x:=.cl (.int (Ad s k))) (y:=.cl (.int (most-2))) rfl rfl (GA (by lia)))) (Af _)))) rfl (eO s k (3+Ad s k%(most-2)) h0 (by lia) (by lia))) rfl)];show AQ _ _ [some (.im (.rd (A5 s))),some (.im (.int k)),some (.im (.int most)),some (.im (.int (Ad s k))),some (.im (.lst (AK (Gx s k (3+Ad s k%(most-2)))))),none,none,none,none,none]=_;have e1:(Ax (Cd (AS (f2 CP (AB 2) (fC (.int 12)))) (AS (f2 CP (f2 BI (f2 C6 (AU Ck (AD (AB 0) (AD (f2 Ac (AB 1) (fC (.int 1))) AI))) (fC (.int 20))) (fC (.int 6))) (fC (.int 5))))) (Ai 4 (AU MS (AD (AB 0) (AD (AB 1) AI)))) A8) [some (.im (.rd (A5 s))),some (.im (.int k)),some (.im (.int most)),some (.im (.int (Ad s k))),some (.im (.lst (AK (Gx s k (3+Ad s k%(most-2)))))),none,none,none,none,none] = some (.nx [some (.im (.rd (A5 s))),some (.im (.int k)),some (.im (.int most)),some (.im (.int (Ad s k))),some (.im (.lst (AK (EE s k most)))),none,none,none,none,none]):=by
  have et:=Ir (J4 (f:=AB 2) (ρ:=[some (.im (.rd (A5 s))),some (.im (.int k)),some (.im (.int most)),some (.im (.int (Ad s k))),some (.im (.lst (AK (Gx s k (3+Ad s k%(most-2)))))),none,none,none,none,none]) (i:=most) 12 rfl) λ_=>J4 5 (EU 6 (Gb 20 (HM (f:=AB 0) (g:=f2 Ac (AB 1) (fC (.int 1))) (s:=s) (k:=k+1) rfl rfl (by lia))));unfold EE;by_cases hc:most=12/\Ad s (k+1) / 20%6=5
  ·rw[show(most==12&&Ad s (k+1) / 20%6==5)=true by simp[hc.1,hc.2]]at et;rw[if_pos hc];exact(CZ et).trans (Bc (BY (AO (x:=.cl (.rd (A5 s))) rfl (AO (x:=.cl (.int k)) rfl (Af _))) rfl (eZ s k h0)) rfl)
  ·rw[show(most==12&&Ad s (k+1) / 20%6==5)=false by
    rw[Bool.eq_false_iff];intro z;simp at z;exact hc z]at et
   rw[if_neg hc];exact(Bw et).trans rfl
 rw[sq e1];have Yd:∀(a4 a5 a6 a7 a8 a9:Option SV),AU Ck (AD (AB 0) (AD (f2 Ac (AB 1) (fC (.int 2))) AI)) [some (.im (.rd (A5 s))),some (.im (.int k)),some (.im (.int most)),some (.im (.int (Ad s k))),a4,a5,a6,a7,a8,a9]=some (.cl (.int (Ad s (k+2)))):=λ_ _ _ _ _ _=>HM (s:=s) (k:=k+2) rfl rfl (by lia);have Ye:∀(a4 a5 a6 a7 a8 a9:Option SV),AU Ck (AD (AB 0) (AD (f2 Ac (AB 1) (fC (.int 3))) AI)) [some (.im (.rd (A5 s))),some (.im (.int k)),some (.im (.int most)),some (.im (.int (Ad s k))),a4,a5,a6,a7,a8,a9]=some (.cl (.int (Ad s (k+3)))):=λ_ _ _ _ _ _=>HM (s:=s) (k:=k+3) rfl rfl (by lia);have kZ:∀(a4 a5 a6 a7 a8 a9:Option SV),AU Ck (AD (AB 0) (AD (f2 Ac (AB 1) (fC (.int 4))) AI)) [some (.im (.rd (A5 s))),some (.im (.int k)),some (.im (.int most)),some (.im (.int (Ad s k))),a4,a5,a6,a7,a8,a9]=some (.cl (.int (Ad s (k+4)))):=λ_ _ _ _ _ _=>HM (s:=s) (k:=k+4) rfl rfl (by lia);rw[sq (Bc (LW (EU 3 (Gb 8 (Yd _ _ _ _ _ _))) rfl) rfl)];show AQ _ _ [some (.im (.rd (A5 s))),some (.im (.int k)),some (.im (.int most)),some (.im (.int (Ad s k))),some (.im (.lst (AK (EE s k most)))),some (.im (.int (D1 s k))),none,none,none,none]=_;have jM:Bt (Bp false (AB 4)) 2 [5] (D7 2 (CJ (Ag 0) (CJ (Ag 1) D8))) B6 (A7 (AD (f2 Ac (AB 0) (f2 C7 (AB 2) (AB 1))) (AD (AB 1) AI))) [some (.im (.rd (A5 s))),some (.im (.int k)),some (.im (.int most)),some (.im (.int (Ad s k))),some (.im (.lst (AK (EE s k most)))),some (.im (.int (D1 s k))),none,none,none,none] = some (.fr (AK ((EE s k most).map (Hg (D1 s k))))):=by
  unfold AK;rw[List.map_map];refine Sh (rv:=.cl (.lst (AK (EE s k most)))) rfl rfl (by lia) λp _=>⟨.cl (pv (Hg (D1 s k) p)),?_,rfl⟩;exact J6 (AO (HL (i:=p.1) rfl (AR (x:=.cl (.int (D1 s k))) (y:=.cl (.int p.2)) rfl rfl (Gr (GV (by unfold D1;lia))))) (AO (x:=.cl (.int p.2)) rfl (Af _))) rfl
 rw[sq (Bc (BY (AO (x:=.cl (.rd (A5 s))) rfl (AO (x:=.cl (.int k)) rfl (AO jM (Af _)))) rfl Y3.1) rfl)];show AQ _ _ [some (.im (.rd (A5 s))),some (.im (.int k)),some (.im (.int most)),some (.im (.int (Ad s k))),some (.im (.lst (AK (FF s k most)))),some (.im (.int (D1 s k))),none,none,none,none]=_;rw[sq (Bc (EU 8 (Yd _ _ _ _ _ _)) rfl)];show AQ _ _ [some (.im (.rd (A5 s))),some (.im (.int k)),some (.im (.int most)),some (.im (.int (Ad s k))),some (.im (.lst (AK (FF s k most)))),some (.im (.int (D1 s k))),some (.im (.int (Ad s (k+2)%8))),none,none,none]=_;have tn:∀(q:Pt->Pt)(f:EF)(t:BF)(b:Bool)(r:List Pt),r.length<=1000->t [some (.im (.rd (A5 s))),some (.im (.int k)),some (.im (.int most)),some (.im (.int (Ad s k))),some (.im (.lst (AK r))),some (.im (.int (D1 s k))),some (.im (.int (Ad s (k+2)%8))),none,none,none]=some b->(∀p:Pt,f [some (.im (.int p.1)),some (.im (.int p.2))]=some (.cl (pv (q p))))->Ax t (Ai 4 (HN (Bt (Bp false (AB 4)) 2 [] (D7 2 (CJ (Ag 0) (CJ (Ag 1) D8))) B6 f))) A8 [some (.im (.rd (A5 s))),some (.im (.int k)),some (.im (.int most)),some (.im (.int (Ad s k))),some (.im (.lst (AK r))),some (.im (.int (D1 s k))),some (.im (.int (Ad s (k+2)%8))),none,none,none] = some (.nx [some (.im (.rd (A5 s))),some (.im (.int k)),some (.im (.int most)),some (.im (.int (Ad s k))),some (.im (.lst (AK (if b=true then(r.map q).reverse else r)))),some (.im (.int (D1 s k))),some (.im (.int (Ad s (k+2)%8))),none,none,none]):=λq f t b r hl et hf=>by
  cases b with
  |false=>rw[if_neg (by simp)];exact(Bw et).trans rfl
  |true=>
   rw[if_pos rfl,CZ et];have ec:=Sh (f:=AB 4) (fe:=f) (ρ:=[some (.im (.rd (A5 s))),some (.im (.int k)),some (.im (.int most)),some (.im (.int (Ad s k))),some (.im (.lst (AK r))),some (.im (.int (D1 s k))),some (.im (.int (Ad s (k+2)%8))),none,none,none]) (cap:=[]) (h:=pv∘q) (rv:=.cl (.lst (AK r))) rfl rfl hl λp _=>⟨_,hf p,rfl⟩;rw[<-rf];exact Bc (X5 ec rfl) rfl
 have bi:∀i n:Int,∀r r':List Pt,(if(i==n)=true then r else r')=(if i=n then r else r'):=λi n r r'=>by
  by_cases h:i=n
  ·rw[if_pos (by simpa using h),if_pos h]
  ·rw[if_neg (by simpa using h),if_neg h]
 have t1:=tn J9 (A7 (AD (f2 Aj (fC (.int 0)) (AB 0)) (AD (AB 1) AI))) _ _ (FF s k most) (by lia) (J4 (f:=f2 BI (AB 6) (fC (.int 2))) 1 (EU 2 (i:=Ad s (k+2)%8) rfl)) (λp=>rfl);rw[bi]at t1;have t2:=tn KA (A7 (AD (AB 0) (AD (f2 Aj (fC (.int 0)) (AB 1)) AI))) _ _ (Hh s k (FF s k most)) (by rw[Vm];lia) (J4 (f:=f2 BI (f2 C6 (AB 6) (fC (.int 2))) (fC (.int 2))) 1 (EU 2 (Gb 2 (i:=Ad s (k+2)%8) rfl))) (λp=>rfl);rw[bi]at t2;have t3:=tn Kr (A7 (AD (AB 1) (AD (AB 0) AI))) _ _ (Ku s k (Hh s k (FF s k most))) (by rw[dB,Vm];lia) (J4 (f:=f2 C6 (AB 6) (fC (.int 4))) 1 (Gb 4 (i:=Ad s (k+2)%8) rfl)) (λp=>rfl);rw[bi]at t3;rw[sq t1];refine(sq t2).trans ?_;refine(sq t3).trans ?_;show AQ _ _ [some (.im (.rd (A5 s))),some (.im (.int k)),some (.im (.int most)),some (.im (.int (Ad s k))),some (.im (.lst (AK (DB s k most)))),some (.im (.int (D1 s k))),some (.im (.int (Ad s (k+2)%8))),none,none,none]=_;have Pp:0<(DB s k most).length:=by lia
 have lU:=aq Pp (Ad s (k+3));have xg:=QR Pp (Ad s (k+3));have e7:f2 BI (AU Ck (AD (AB 0) (AD (f2 Ac (AB 1) (fC (.int 3))) AI))) (fB Az (AD (AB 4) AI)) [some (.im (.rd (A5 s))),some (.im (.int k)),some (.im (.int most)),some (.im (.int (Ad s k))),some (.im (.lst (AK (DB s k most)))),some (.im (.int (D1 s k))),some (.im (.int (Ad s (k+2)%8))),none,none,none] = some (.cl (.int (DT (DB s k most) (Ad s (k+3)):Int))):=by
  rw[<-lU];exact AR (Ye _ _ _ _ _ _) (y:=.cl (.int ((DB s k most).length:Int))) (by rw[<-Dx];rfl) (GA (by lia))
 rw[sq (Bc e7 rfl)];refine(sq (Bc (LW (EU 41 (Gb 16 (Ye _ _ _ _ _ _))) rfl) rfl)).trans ?_;refine(sq (Bc (LW (EU 41 (kZ _ _ _ _ _ _)) rfl) rfl)).trans ?_;refine Uj ?_;show Bt _ _ _ _ _ _ [some (.im (.rd (A5 s))),some (.im (.int k)),some (.im (.int most)),some (.im (.int (Ad s k))),some (.im (.lst (AK (DB s k most)))),some (.im (.int (D1 s k))),some (.im (.int (Ad s (k+2)%8))),some (.im (.int (DT (DB s k most) (Ad s (k+3)):Int))),some (.im (.int (Ad s (k+3) / 16%41-20))),some (.im (.int (Ad s (k+4)%41-20)))]=_;unfold drawn;have Pf:=Sh (f:=f2 Ac (Dk (AB 4) (Dj (AB 7)) Dv) (Dk (AB 4) Dv (Dj (AB 7)))) (fe:=A7 (AD (f2 Ac (AB 0) (AB 2)) (AD (f2 Ac (AB 1) (AB 3)) AI))) (cap:=[8,9]) (h:=pv∘JQ (Ad s (k+3) / 16%41-20) (Ad s (k+4)%41-20)) (ρ:=[some (.im (.rd (A5 s))),some (.im (.int k)),some (.im (.int most)),some (.im (.int (Ad s k))),some (.im (.lst (AK (DB s k most)))),some (.im (.int (D1 s k))),some (.im (.int (Ad s (k+2)%8))),some (.im (.int (DT (DB s k most) (Ad s (k+3)):Int))),some (.im (.int (Ad s (k+3) / 16%41-20))),some (.im (.int (Ad s (k+4)%41-20)))]) (rv:=.fr (AK (IQ (DB s k most) (DT (DB s k most) (Ad s (k+3)))))) (r:=IQ (DB s k most) (DT (DB s k most) (Ad s (k+3)))) (by
   refine(AR (X0 (rv:=.cl (.lst (AK (DB s k most)))) (n:=DT (DB s k most) (Ad s (k+3))) rfl rfl rfl (by lia)) (X6 (rv:=.cl (.lst (AK (DB s k most)))) (n:=DT (DB s k most) (Ad s (k+3))) rfl rfl rfl (by lia)) (Lk rfl rfl (by simp[AK];lia))).trans ?_;unfold IQ;rw[Kh]) rfl (by unfold IQ;simp;lia) λp _=>⟨.cl (pv (JQ (Ad s (k+3) / 16%41-20) (Ad s (k+4)%41-20) p)),rfl,rfl⟩
 rw[Pf];unfold AK;rw[List.map_map]
theorem Xw:∀r:List Pt,PySem.PyData.eqvAll (DA (AK r)) (DA (AK r))=true
 |[]=>by simp[AK,DA,PySem.PyData.eqvAll]
 |p::r=>by
  have ih:=Xw r;have e:DA (AK (p::r))=A1 (pv p)::DA (AK r):=by unfold AK;rw[List.map_cons,DA]
  rw[e,PySem.PyData.eqvAll,ih];simp[pv,A1,DA,PySem.PyData.eqv,PySem.PyData.eqvAll]
theorem ZY:∀r:List Pt,PySem.PyData.canLayAll0 (DA (AK r))=true/\PySem.PyData.depthAll (DA (AK r))<=1
 |[]=>by simp[AK,DA,PySem.PyData.canLayAll0,PySem.PyData.depthAll]
 |p::r=>by
  have ih:=ZY r;have e:DA (AK (p::r))=A1 (pv p)::DA (AK r):=by unfold AK;rw[List.map_cons,DA]
  rw[e,PySem.PyData.canLayAll0,PySem.PyData.depthAll,ih.1];have h1:PySem.PyData.canLay0 (A1 (pv p))=true:=by simp[pv,A1,DA,PySem.PyData.canLay0,PySem.PyData.canLayAll0]
  have h2:PySem.PyData.depth (A1 (pv p))<=1:=by simp[pv,A1,DA,PySem.PyData.depth,PySem.PyData.depthAll]
  refine⟨by rw[h1];rfl,by lia⟩
theorem ZP{x y:RV}{b:Bool}(hx:PySem.SeqAt.shaped (A1 x.any)=true)(hy:PySem.SeqAt.shaped (A1 y.any)=true)(h:PySem.PyData.eqv (A1 x.any) (A1 y.any)=b):CP x y=some (.cl (.bl b)):=by
 unfold CP;rw[if_pos ⟨hx,hy⟩,h]
theorem VP(r:List Pt):PySem.SeqAt.shaped (A1 (.lst (AK r)))=true/\PySem.PyData.eqv (A1 (.lst (AK r))) (A1 (.lst (AK r)))=true:=by
 have h:=ZY r;constructor
 ·unfold PySem.SeqAt.shaped A1;rw[PySem.PyData.canLay0,PySem.PyData.depth,h.1,Bool.true_and,decide_eq_true_eq];lia
 ·unfold A1;rw[PySem.PyData.eqv];exact Xw r
theorem mV(r:List Pt):CP (.cl (.lst (AK r))) (.cl (.lst (AK r)))=some (.cl (.bl true)):=
 ZP (VP r).1 (VP r).1 (VP r).2
open AJ (AE As BZ CF AA M nb At Keeps Rm Rows B0)
theorem Vn:∀(l acc:List (List Int)),(_root_.ST.EN acc l).length<=acc.length+l.length/\((_root_.ST.EN acc l).length=acc.length+l.length↔(l.Nodup/\∀x∈l,x∉acc))
 |[],acc=>by unfold _root_.ST.EN;simp
 |k::r,acc=>by
  unfold _root_.ST.EN;by_cases hk:k∈acc
  ·rw[if_pos hk];obtain⟨h1,h2⟩:=Vn r acc;refine⟨by rw[List.length_cons];lia,⟨λh=>by rw[List.length_cons]at h;lia,λh=>absurd hk (h.2 k List.mem_cons_self)⟩⟩
  ·rw[if_neg hk];obtain⟨h1,h2⟩:=Vn r (k::acc);rw[List.length_cons]at h1 h2;refine⟨by rw[List.length_cons];lia,?_⟩;rw[List.length_cons,show acc.length+(r.length+1)=acc.length+1+r.length by lia,h2,List.nodup_cons];constructor
   ·rintro⟨a,b⟩;refine⟨⟨λhm=>b k hm List.mem_cons_self,a⟩,λx hx=>?_⟩;rcases List.mem_cons.mp hx with rfl|hx
    ·exact hk
    ·exact λhm=>b x hx (List.mem_cons_of_mem _ hm)
   ·rintro⟨⟨a,b⟩,c⟩;refine⟨b,λx hx hm=>?_⟩;rcases List.mem_cons.mp hm with rfl|hm
    ·exact a hx
    ·exact c x (List.mem_cons_of_mem _ hx) hm
theorem nC(r:List Pt):(kl r).Nodup↔r.Nodup:=by
 unfold kl List.Nodup;rw[List.pairwise_map];constructor
 ·exact λh=>h.imp λAw e=>Aw (by rw[e])
 ·exact λh=>h.imp λ{a b} Aw e=>Aw (by
   simp only[List.cons.injEq,and_true]at e;exact Prod.ext e.1 e.2)
theorem Xi(r:List Pt):dist r=r.length↔r.Nodup:=by
 have:=(Vn (kl r) []).2;unfold dist;rw[show(kl r).length=r.length from List.length_map ..]at this;rw[show r.length=([]:List (List Int)).length+r.length by simp,this,nC];simp
theorem Oj(r:List Pt):Hr r=true↔∀k:Nat,k<r.length->AE (AA r ((k:Int)-2)) (AA r ((k:Int)-1)) (AA r k)≠0:=by
 unfold Hr;simp[List.all_eq_true]
theorem Rv{r:List Pt}(h0:0<r.length)(h:Hr r=true)(k:Int):AE (AA r (k-2)) (AA r (k-1)) (AA r k)≠0:=by
 have a:=Int.emod_nonneg k (b:=(r.length:Int)) (by lia);have b:=Int.emod_lt_of_pos k (b:=(r.length:Int)) (by lia);have:=(Oj r).mp h (k%(r.length:Int)).toNat (by lia);rw[Int.toNat_of_nonneg a]at this;have e:∀d:Int,AA r (k%(r.length:Int)-d)=AA r (k-d):=λd=>by
  unfold AJ.AA;rw[Int.emod_sub_emod]
 rw[e,e,AJ.Fy]at this;exact this
theorem Kl(r:List Pt):Ef r=true↔Rm r/\∀p∈r,Bd 100 p:=by
 unfold Ef;simp only[Bool.and_eq_true,decide_eq_true_eq,beq_iff_eq,List.all_eq_true,UN,WO];constructor
 ·rintro⟨⟨h1,h2⟩,h3,h4,h5,h6,h7⟩;have hd:dist r=r.length:=by lia
  exact⟨⟨by lia,by lia,(Xi r).mp hd,Rv (by lia) h5,AJ.Rj (by lia) h6,h7⟩,h4⟩
 ·rintro⟨R,h⟩;have h3:=R.l3;have FT:=R.Ng;refine⟨⟨by lia,by lia⟩,by rw[(Xi r).mpr R.nd],h,(Oj r).mpr λk _=>R.LC k,AJ.fQ R.apart,R.Jt⟩
theorem mq(z:Int):Keeps (Hg z) 1 where
 one:=.inl rfl
 sd:=λa b c=>by unfold AE Hg;grind
 at_:=λa b p=>by
  unfold At Hg;constructor
  ·rintro⟨q,s,h1,h2,h3,e1,e2⟩;exact⟨q,s,h1,h2,h3,by dsimp only at *;grind,by dsimp only at *;grind⟩
  ·rintro⟨q,s,h1,h2,h3,e1,e2⟩;exact⟨q,s,h1,h2,h3,by dsimp only at *;grind,by dsimp only at *;grind⟩
 inj:=λa b h=>by
  unfold Hg at h;rw[Prod.mk.injEq]at h;obtain⟨h1,h2⟩:=h;rw[h2]at h1;exact Prod.ext (by lia) h2
theorem mm(x y:Int):Keeps (JQ x y) 1 where
 one:=.inl rfl
 sd:=λa b c=>by unfold AE JQ;grind
 at_:=λa b p=>by
  unfold At JQ;constructor
  ·rintro⟨q,s,h1,h2,h3,e1,e2⟩;exact⟨q,s,h1,h2,h3,by dsimp only at *;grind,by dsimp only at *;grind⟩
  ·rintro⟨q,s,h1,h2,h3,e1,e2⟩;exact⟨q,s,h1,h2,h3,by dsimp only at *;grind,by dsimp only at *;grind⟩
 inj:=λa b h=>by
  unfold JQ at h;rw[Prod.mk.injEq]at h;exact Prod.ext (by lia) (by lia)
theorem mh:Keeps J9 (-1) where
 one:=.inr rfl
 sd:=λa b c=>by unfold AE J9;grind
 at_:=λa b p=>by
  unfold At J9;constructor
  ·rintro⟨q,s,h1,h2,h3,e1,e2⟩;exact⟨q,s,h1,h2,h3,by dsimp only at *;grind,by dsimp only at *;grind⟩
  ·rintro⟨q,s,h1,h2,h3,e1,e2⟩;exact⟨q,s,h1,h2,h3,by dsimp only at *;grind,by dsimp only at *;grind⟩
 inj:=λa b h=>by
  unfold J9 at h;rw[Prod.mk.injEq]at h;exact Prod.ext (by lia) (by lia)
theorem mj:Keeps KA (-1) where
 one:=.inr rfl
 sd:=λa b c=>by unfold AE KA;grind
 at_:=λa b p=>by
  unfold At KA;constructor
  ·rintro⟨q,s,h1,h2,h3,e1,e2⟩;exact⟨q,s,h1,h2,h3,by dsimp only at *;grind,by dsimp only at *;grind⟩
  ·rintro⟨q,s,h1,h2,h3,e1,e2⟩;exact⟨q,s,h1,h2,h3,by dsimp only at *;grind,by dsimp only at *;grind⟩
 inj:=λa b h=>by
  unfold KA at h;rw[Prod.mk.injEq]at h;exact Prod.ext (by lia) (by lia)
theorem mw:Keeps Kr (-1) where
 one:=.inr rfl
 sd:=λa b c=>by unfold AE Kr;grind
 at_:=λa b p=>by
  unfold At Kr;constructor
  ·rintro⟨q,s,h1,h2,h3,e1,e2⟩;exact⟨q,s,h1,h2,h3,by dsimp only at *;grind,by dsimp only at *;grind⟩
  ·rintro⟨q,s,h1,h2,h3,e1,e2⟩;exact⟨q,s,h1,h2,h3,by dsimp only at *;grind,by dsimp only at *;grind⟩
 inj:=λa b h=>by
  unfold Kr at h;rw[Prod.mk.injEq]at h;exact Prod.ext (by lia) (by lia)
theorem Mq{r:List Pt}{i:Nat}(h:i<r.length):AA r (i:Int)=r[i]:=by
 unfold AJ.AA;rw[Int.emod_eq_of_lt (by lia) (by lia),Int.toNat_natCast];simp[List.getD,h]
theorem Mp(r:List Pt):AA r (r.length:Int)=AA r 0:=by
 have:=AJ.E2 r 0;rw[Int.zero_add]at this;exact this
theorem bp{r:List Pt}{m:Nat}(R:Rows r.length m λi=>AA r (i:Int))(FT:r.length<=12)(hb:Hr r=true):Rm r:=by
 have h3:=R.h3;refine⟨h3,FT,?_,Rv (by lia) hb,AJ.Rj (by lia) λk j h0 h1 h2 hn=>?_,?_⟩
 ·refine List.pairwise_iff_getElem.mpr λi j hi hj Cg=>?_;have:=R.inj Cg hj;rw[Mq hi,Mq hj]at this;exact this
 ·have hf:=AJ.S4 (by lia) (by lia) hn;unfold AJ.CN at hf;rw[Int.emod_eq_of_lt (by lia) (by lia)]at hf;have:=R.apart (i:=k.toNat) (j:=j.toNat) (by lia) (by lia) (by lia) (by lia);rw[show((k.toNat:Nat):Int)=k by lia,show((k.toNat+1:Nat):Int)=k+1 by lia,show((j.toNat:Nat):Int)=j by lia,show((j.toNat+1:Nat):Int)=j+1 by lia]at this;exact AJ.BU this
 ·have:=R.Jt;rw[AJ.Mf];rw[AJ.B5 (g:=AJ.Fx r)]at this
  ·exact this
  ·intro i _;unfold AJ.Fx;rw[show(((i:Int).toNat:Nat):Int)=i by lia,show((((i:Int)+1).toNat:Nat):Int)=i+1 by lia]
structure Mc(mode:Int)(i:Nat)(b:Int×List Pt×List Pt):Prop where
 lo:0<=b.1
 hi:b.1<=4*i
 m3:mode=3->b.1=i
 len:b.2.1.length+b.2.2.length=i
 lp:b.2.1.Pairwise λp q=>p.1<q.1
 hp:b.2.2.Pairwise λp q=>p.1<q.1
 bl:∀p∈b.2.1,1<=p.1/\p.1<=b.1/\-30<=p.2/\p.2<=-1
 bh:∀p∈b.2.2,1<=p.1/\p.1<=b.1/\1<=p.2/\p.2<=30
theorem Z3{a b:Int}(ha:1<=a)(hb:1<=b)(h:a+b<=11):1<=a*b/\a*b<=30:=by
 have h1:=Int.mul_pos (by lia:0<a) (by lia:0<b);have h2:0<=(a-b)*(a-b):=by
  rcases Int.le_total a b with h|h
  ·exact Int.mul_nonneg_of_nonpos_of_nonpos (by lia) (by lia)
  ·exact Int.mul_nonneg (by lia) (by lia)
 have h3:(a+b)*(a+b)<=11*11:=Int.mul_le_mul h h (by lia) (by lia);have h4:4*(a*b)=(a+b)*(a+b)-(a-b)*(a-b):=by grind
 lia
theorem ql{s:List Int}{k count mode:Int}{i:Nat}{b:Int×List Pt×List Pt}(h1:3<=count)(h2:count<=12)(hi:(i:Int)<count-2)(h:Mc mode i b):Mc mode (i+1) (Fc s k count mode b i):=by
 obtain⟨x0,low,CK⟩:=b;obtain⟨lo,hh,m3,len,lp,hp,bl,bh⟩:=h;dsimp only at lo hh m3 len lp hp bl bh;unfold Fc;dsimp only;generalize ec:Ad s (k+4+(1+(i:Int)))=c;have hx:∀x,(if mode=3 then 1+(i:Int)else x0+1+c / 2%4)=x->x0<x/\x<=4*((i:Int)+1)/\(mode=3->x=i+1):=λx e=>by
  subst e;by_cases hm:mode=3
  ·rw[if_pos hm];have:=m3 hm;exact⟨by lia,by lia,λ_=>by lia⟩
  ·rw[if_neg hm];exact⟨by lia,by lia,λz=>absurd z hm⟩
 have hy:∀y,(if mode=3 then(1+(i:Int))*(count-1-(1+(i:Int)))else 1+c / 8%9)=y->1<=y/\y<=30:=λy e=>by
  subst e;by_cases hm:mode=3
  ·rw[if_pos hm];exact Z3 (by lia) (by lia) (by lia)
  ·rw[if_neg hm];lia
 generalize ex:(if mode=3 then 1+(i:Int)else x0+1+c / 2%4)=x;generalize ey:(if mode=3 then(1+(i:Int))*(count-1-(1+(i:Int)))else 1+c / 8%9)=y;obtain⟨BH,BC,BE⟩:=hx x ex;have ly:=hy y ey;split
 ·refine⟨by dsimp only;lia,by dsimp only;push_cast;lia,λz=>by dsimp only;push_cast;exact BE z,by simp;lia,?_,hp,λp hp=>?_,λp hp=>?_⟩
  ·refine List.pairwise_append.mpr ⟨lp,by simp,λa ha b hb=>?_⟩;rw[List.mem_singleton.mp hb];have:=bl a ha;dsimp only;lia
  ·rcases List.mem_append.mp hp with z|z
   ·have:=bl p z;dsimp only;lia
   ·rw[List.mem_singleton.mp z];dsimp only;lia
  ·have:=bh p hp;dsimp only;lia
 ·refine⟨by dsimp only;lia,by dsimp only;push_cast;lia,λz=>by dsimp only;push_cast;exact BE z,by simp;lia,lp,?_,λp hp=>?_,λp hp=>?_⟩
  ·refine List.pairwise_append.mpr ⟨hp,by simp,λa ha b hb=>?_⟩;rw[List.mem_singleton.mp hb];have:=bh a ha;dsimp only;lia
  ·have:=bl p hp;dsimp only;lia
  ·rcases List.mem_append.mp hp with z|z
   ·have:=bh p z;dsimp only;lia
   ·rw[List.mem_singleton.mp z];dsimp only;lia
theorem ao{s:List Int}{k count mode:Int}(h1:3<=count)(h2:count<=12):∀n:Nat,(n:Int)<=count-2->Mc mode n ((List.range n).foldl (Fc s k count mode) (0,[],[]))
 |0,_=>⟨by simp,by simp,λ_=>rfl,rfl,.nil,.nil,(λp hp=>by cases hp),(λp hp=>by cases hp)⟩
 |n+1,hn=>by
  rw[List.range_succ,List.foldl_append];exact ql h1 h2 (by lia) (ao h1 h2 n (by lia))
theorem rk{mode:Int}{i:Nat}{b:Int×List Pt×List Pt}(h:Mc mode i b)(hi:1<=i):Rows (Cr b).length b.2.1.length λi=>AA (Cr b) (i:Int):=by
 obtain⟨x0,low,CK⟩:=b;obtain⟨lo,hh,m3,len,lp,hp,bl,bh⟩:=h;dsimp only at lo hh m3 len lp hp bl bh ⊢;have hl:(Cr (x0,low,CK)).length=low.length+CK.length+2:=Qf _;have er:Cr (x0,low,CK)=((0,0)::(low ++ [(x0+1,0)]))++CK.reverse:=by simp[Cr]
 have jK:Cr (x0,low,CK) ++ [(0,0)]=((0,0)::low)++((x0+1,0)::(CK.reverse ++ [(0,0)])):=by simp[Cr]
 have pb:((0,0)::(low ++ [(x0+1,0)]):List Pt).Pairwise λp q=>p.1<q.1:=by
  refine List.pairwise_cons.mpr ⟨λp hp=>?_,List.pairwise_append.mpr ⟨lp,by simp,λa ha c hc=>?_⟩⟩
  ·rcases List.mem_append.mp hp with z|z
   ·have:=bl p z;dsimp only;lia
   ·rw[List.mem_singleton.mp z];dsimp only;lia
  ·rw[List.mem_singleton.mp hc];have:=bl a ha;dsimp only;lia
 have pt:((x0+1,0)::(CK.reverse ++ [(0,0)]):List Pt).Pairwise λp q=>q.1<p.1:=by
  refine List.pairwise_cons.mpr ⟨λp hp=>?_,List.pairwise_append.mpr ⟨List.pairwise_reverse.mpr hp,by simp,λa ha c hc=>?_⟩⟩
  ·rcases List.mem_append.mp hp with z|z
   ·have:=bh p (List.mem_reverse.mp z);dsimp only;lia
   ·rw[List.mem_singleton.mp z];dsimp only;lia
  ·rw[List.mem_singleton.mp hc];have:=bh a (List.mem_reverse.mp ha);dsimp only;lia
 have gb:∀j:Nat,(hj:j<=low.length+1)->AA (Cr (x0,low,CK)) (j:Int)=((0,0)::(low ++ [(x0+1,0)]):List Pt)[j]'(by simp;lia):=λj hj=>by
  rw[Mq (by lia)];simp only[er];rw[List.getElem_append_left]
 have gt:∀j:Nat,(h1:low.length+1<=j)->(hj:j<=low.length+CK.length+2)->AA (Cr (x0,low,CK)) (j:Int)=((x0+1,0)::(CK.reverse ++ [(0,0)]):List Pt)[j-(low.length+1)]'(by simp;lia):=λj h1 hj=>by
  have e:AA (Cr (x0,low,CK)) (j:Int)=(Cr (x0,low,CK) ++ [(0,0)])[j]'(by simp[hl];lia):=by
   by_cases F3:j<(Cr (x0,low,CK)).length
   ·rw[Mq F3,List.getElem_append_left F3]
   ·have Cz:j=(Cr (x0,low,CK)).length:=by lia
    subst Cz;rw[Mp,List.getElem_append_right (by lia)];have:AA (Cr (x0,low,CK)) 0=(0,0):=by
     have:=gb 0 (by lia);simpa using this
    rw[this];simp
  rw[e];simp only[jK];rw[List.getElem_append_right (by simp;lia)];simp
 refine⟨by lia,by lia,Mp _,λj hj=>?_,λj h1 hj=>?_,?_,?_,λj h1 hj=>?_,λj h1 hj=>?_⟩
 ·rw[gb j (by lia),gb (j+1) (by lia)];exact List.pairwise_iff_getElem.mp pb j (j+1) (by simp;lia) (by simp;lia) (by lia)
 ·rw[gt j h1 (by lia),gt (j+1) (by lia) (by lia)];exact List.pairwise_iff_getElem.mp pt (j-(low.length+1)) (j+1-(low.length+1)) (by simp;lia) (by simp;lia) (by lia)
 ·have:=gb 0 (by lia);rw[this];rfl
 ·rw[gb (low.length+1) (by lia)];simp
 ·rw[gb j (by lia)];obtain⟨j',rfl⟩:∃j',j=j'+1:=⟨j-1,by lia⟩;rw[List.getElem_cons_succ,List.getElem_append_left (by lia)];have:=bl _ (List.getElem_mem (l:=low) (n:=j') (by lia));lia
 ·rw[gt j (by lia) (by lia)];obtain⟨j',Cz⟩:∃j',j-(low.length+1)=j'+1:=⟨j-(low.length+1)-1,by lia⟩;simp only[Cz];rw[List.getElem_cons_succ,List.getElem_append_left (by simp;lia)];have:=bh _ (List.mem_reverse.mp (List.getElem_mem (l:=CK.reverse) (n:=j') (by simp;lia)));lia
theorem Ii{c:Int}{i:Nat}(h:(i:Int)<c):AA (ES c) (i:Int)=((i:Int),0-(i:Int)*(c-1-i)):=by
 rw[Mq (by simp[ES];lia)];simp[ES]
theorem tH(u v w d:Int):AE (u,0-u*(d-u)) (v,0-v*(d-v)) (w,0-w*(d-w))=(v-u)*(w-u)*(w-v):=by
 unfold AE;grind
theorem gA{c:Int}(h:0<=c):((ES c).length:Int)=c:=by simp[ES];lia
theorem gC{c:Int}(h1:3<=c)(h2:c<=12):Rm (ES c):=by
 have hl:=gA (c:=c) (by lia);have hn:(ES c).length=c.toNat:=by lia
 refine bp (m:=c.toNat-2) ⟨by lia,by lia,Mp _,λi hi=>?_,λi hi Lh=>?_,?_,?_,λi hi Lh=>?_,λi hi Lh=>by lia⟩ (by lia) ((Oj _).mpr λk hk=>?_)
 ·rw[Ii (by lia),Ii (by lia)];dsimp only;lia
 ·have C4:i=c.toNat-1:=by lia
  subst C4;have e1:AA (ES c) ((c.toNat-1+1:Nat):Int)=AA (ES c) 0:=by
   rw[<-Mp];congr 1;lia
  have e2:=Ii (c:=c) (i:=0) (by lia);rw[e1,Ii (by lia)];rw[show((0:Nat):Int)=0 from rfl]at e2;rw[e2];dsimp only;lia
 ·have e2:=Ii (c:=c) (i:=0) (by lia);rw[e2];simp
 ·rw[Ii (by lia)];dsimp only;rw[show c-1-((c.toNat-2+1:Nat):Int)=0 by lia];lia
 ·rw[Ii (by lia)];dsimp only;have:=Int.mul_pos (show(0:Int)<i by lia) (show 0<c-1-(i:Int)by lia);lia
 ·have e:∀j:Int,0<=j->j<c->AA (ES c) j=(j,0-j*(c-1-j)):=λj h0 h1=>by
   have:=Ii (c:=c) (i:=j.toNat) (by lia);rw[Int.toNat_of_nonneg h0]at this;exact this
  have e':∀j:Int,-c<=j->j<0->AA (ES c) j=(j+c,0-(j+c)*(c-1-(j+c))):=λj h0 h1=>by
   rw[<-AJ.E2,hl];exact e (j+c) (by lia) (by lia)
  have ne3:∀u v w:Int,u≠v->u≠w->v≠w->AE (u,0-u*(c-1-u)) (v,0-v*(c-1-v)) (w,0-w*(c-1-w))≠0:=λu v w a b d=>by
   rw[tH];exact Int.mul_ne_zero (Int.mul_ne_zero (by lia) (by lia)) (by lia)
  by_cases KO:2<=k
  ·rw[e _ (by lia) (by lia),e _ (by lia) (by lia),e _ (by lia) (by lia)];exact ne3 _ _ _ (by lia) (by lia) (by lia)
  ·by_cases k9:k=1
   ·subst k9;rw[e' _ (by lia) (by lia),e _ (by lia) (by lia),e _ (by lia) (by lia)];exact ne3 _ _ _ (by lia) (by lia) (by lia)
   ·have NK:k=0:=by lia
    subst NK;rw[e' _ (by lia) (by lia),e' _ (by lia) (by lia),e _ (by lia) (by lia)];exact ne3 _ _ _ (by lia) (by lia) (by lia)
def Hn(p:Pt):Prop:=-41<=p.1/\p.1<=41/\-30<=p.2/\p.2<=30
theorem qk(s:List Int)(k:Int){count:Int}(h1:3<=count)(h2:count<=12):Rm (Gx s k count)/\∀p∈Gx s k count,Hn p:=by
 have st:Mc (Ad s (k+1)%4) (count-2).toNat (Cb s k count):=ao h1 h2 _ (by lia);unfold Gx;cases hf:Gd (Cr (Cb s k count))with
 |true=>
  rw[if_pos rfl];refine⟨gC h1 h2,λp hp=>?_⟩;unfold ES at hp;obtain⟨j,hj,rfl⟩:=List.mem_map.mp hp;have Cz:=List.mem_range.mp hj;unfold Hn;dsimp only;by_cases h0:j=0
  ·subst h0;simp
  ·by_cases hc:(j:Int)=count-1
   ·rw[hc,show count-1-(count-1)=0 by lia];lia
   ·have:=Z3 (a:=(j:Int)) (b:=count-1-j) (by lia) (by lia) (by lia);lia
 |false=>
  rw[if_neg (by simp)];have hl:=Qf (Cb s k count);have CO:=st.len;refine⟨bp (rk st (by lia)) (by lia) (by rw[YH,hf];rfl),λp hp=>?_⟩;unfold Cr at hp;simp only[List.mem_append,List.mem_singleton,List.mem_reverse]at hp;have:=st.lo;have:=st.hi;unfold Hn;rcases hp with((rfl|hp)|rfl)|hp
  ·simp
  ·have:=st.bl p hp;lia
  ·dsimp only;lia
  ·have:=st.bh p hp;lia
def AY(x0 x1 x2 x3 x4 x5 y0 y1 y2 y3 y4 y5:Int):List Pt:=[(x0,y0),(x5,y0),(x5,y5),(x1,y5),(x1,y2),(x3,y2),(x3,y3),(x2,y3),(x2,y4),(x4,y4),(x4,y1),(x0,y1)]
section
variable{x0 x1 x2 x3 x4 x5 y0 y1 y2 y3 y4 y5:Int}
theorem wb:AA (AY x0 x1 x2 x3 x4 x5 y0 y1 y2 y3 y4 y5) (-2)=(x4,y1):=rfl
theorem dU:AA (AY x0 x1 x2 x3 x4 x5 y0 y1 y2 y3 y4 y5) (-1)=(x0,y1):=rfl
theorem Vs:AA (AY x0 x1 x2 x3 x4 x5 y0 y1 y2 y3 y4 y5) 0=(x0,y0):=rfl
theorem Vt:AA (AY x0 x1 x2 x3 x4 x5 y0 y1 y2 y3 y4 y5) 1=(x5,y0):=rfl
theorem Vu:AA (AY x0 x1 x2 x3 x4 x5 y0 y1 y2 y3 y4 y5) 2=(x5,y5):=rfl
theorem Vv:AA (AY x0 x1 x2 x3 x4 x5 y0 y1 y2 y3 y4 y5) 3=(x1,y5):=rfl
theorem Vw:AA (AY x0 x1 x2 x3 x4 x5 y0 y1 y2 y3 y4 y5) 4=(x1,y2):=rfl
theorem Vx:AA (AY x0 x1 x2 x3 x4 x5 y0 y1 y2 y3 y4 y5) 5=(x3,y2):=rfl
theorem Vy:AA (AY x0 x1 x2 x3 x4 x5 y0 y1 y2 y3 y4 y5) 6=(x3,y3):=rfl
theorem Vz:AA (AY x0 x1 x2 x3 x4 x5 y0 y1 y2 y3 y4 y5) 7=(x2,y3):=rfl
theorem V0:AA (AY x0 x1 x2 x3 x4 x5 y0 y1 y2 y3 y4 y5) 8=(x2,y4):=rfl
theorem V1:AA (AY x0 x1 x2 x3 x4 x5 y0 y1 y2 y3 y4 y5) 9=(x4,y4):=rfl
theorem dS:AA (AY x0 x1 x2 x3 x4 x5 y0 y1 y2 y3 y4 y5) 10=(x4,y1):=rfl
theorem wa:AA (AY x0 x1 x2 x3 x4 x5 y0 y1 y2 y3 y4 y5) 11=(x0,y1):=rfl
theorem Hi:AA (AY x0 x1 x2 x3 x4 x5 y0 y1 y2 y3 y4 y5) 12=(x0,y0):=(Mp (AY x0 x1 x2 x3 x4 x5 y0 y1 y2 y3 y4 y5)).trans rfl
variable(BJ:x0<x1)(BH:x1<x2)(BC:x2<x3)(BE:x3<x4)(BK:x4<x5)(BL:y0<y1)(BM:y1<y2)(BN:y2<y3)(BO:y3<y4)(BP:y4<y5)
include BJ BH BC BE BK BL BM BN BO BP
theorem wg:Hr (AY x0 x1 x2 x3 x4 x5 y0 y1 y2 y3 y4 y5)=true:=by
 refine(Oj _).mpr λk hk=>?_;have CC:k<12:=hk;have:k=0\/k=1\/k=2\/k=3\/k=4\/k=5\/k=6\/k=7\/k=8\/k=9\/k=10\/k=11:=by lia
 rcases this with rfl|rfl|rfl|rfl|rfl|rfl|rfl|rfl|rfl|rfl|rfl|rfl
 ·show AE (AA (AY x0 x1 x2 x3 x4 x5 y0 y1 y2 y3 y4 y5) (0-2)) (AA (AY x0 x1 x2 x3 x4 x5 y0 y1 y2 y3 y4 y5) (0-1)) (AA (AY x0 x1 x2 x3 x4 x5 y0 y1 y2 y3 y4 y5) 0)≠0;rw[show((0:Int)-2) = -2 from rfl,show((0:Int)-1) = -1 from rfl,wb,dU,Vs];have e:AE (x4,y1) (x0,y1) (x0,y0)=(x0-x4)*(y0-y1):=by unfold AE;grind
  have:=Int.mul_ne_zero (show(x0-x4)≠0 by lia) (show(y0-y1)≠0 by lia);lia
 ·show AE (AA (AY x0 x1 x2 x3 x4 x5 y0 y1 y2 y3 y4 y5) (1-2)) (AA (AY x0 x1 x2 x3 x4 x5 y0 y1 y2 y3 y4 y5) (1-1)) (AA (AY x0 x1 x2 x3 x4 x5 y0 y1 y2 y3 y4 y5) 1)≠0;rw[show((1:Int)-2) = -1 from rfl,show((1:Int)-1)=0 from rfl,dU,Vs,Vt];have e:AE (x0,y1) (x0,y0) (x5,y0) = -((y0-y1)*(x5-x0)):=by unfold AE;grind
  have:=Int.mul_ne_zero (show(y0-y1)≠0 by lia) (show(x5-x0)≠0 by lia);omega
 ·show AE (AA (AY x0 x1 x2 x3 x4 x5 y0 y1 y2 y3 y4 y5) (2-2)) (AA (AY x0 x1 x2 x3 x4 x5 y0 y1 y2 y3 y4 y5) (2-1)) (AA (AY x0 x1 x2 x3 x4 x5 y0 y1 y2 y3 y4 y5) 2)≠0;rw[show((2:Int)-2)=0 from rfl,show((2:Int)-1)=1 from rfl,Vs,Vt,Vu];have e:AE (x0,y0) (x5,y0) (x5,y5)=(x5-x0)*(y5-y0):=by unfold AE;grind
  have:=Int.mul_ne_zero (show(x5-x0)≠0 by lia) (show(y5-y0)≠0 by lia);lia
 ·show AE (AA (AY x0 x1 x2 x3 x4 x5 y0 y1 y2 y3 y4 y5) (3-2)) (AA (AY x0 x1 x2 x3 x4 x5 y0 y1 y2 y3 y4 y5) (3-1)) (AA (AY x0 x1 x2 x3 x4 x5 y0 y1 y2 y3 y4 y5) 3)≠0;rw[show((3:Int)-2)=1 from rfl,show((3:Int)-1)=2 from rfl,Vt,Vu,Vv];have e:AE (x5,y0) (x5,y5) (x1,y5) = -((y5-y0)*(x1-x5)):=by unfold AE;grind
  have:=Int.mul_ne_zero (show(y5-y0)≠0 by lia) (show(x1-x5)≠0 by lia);omega
 ·show AE (AA (AY x0 x1 x2 x3 x4 x5 y0 y1 y2 y3 y4 y5) (4-2)) (AA (AY x0 x1 x2 x3 x4 x5 y0 y1 y2 y3 y4 y5) (4-1)) (AA (AY x0 x1 x2 x3 x4 x5 y0 y1 y2 y3 y4 y5) 4)≠0;rw[show((4:Int)-2)=2 from rfl,show((4:Int)-1)=3 from rfl,Vu,Vv,Vw];have e:AE (x5,y5) (x1,y5) (x1,y2)=(x1-x5)*(y2-y5):=by unfold AE;grind
  have:=Int.mul_ne_zero (show(x1-x5)≠0 by lia) (show(y2-y5)≠0 by lia);lia
 ·show AE (AA (AY x0 x1 x2 x3 x4 x5 y0 y1 y2 y3 y4 y5) (5-2)) (AA (AY x0 x1 x2 x3 x4 x5 y0 y1 y2 y3 y4 y5) (5-1)) (AA (AY x0 x1 x2 x3 x4 x5 y0 y1 y2 y3 y4 y5) 5)≠0;rw[show((5:Int)-2)=3 from rfl,show((5:Int)-1)=4 from rfl,Vv,Vw,Vx];have e:AE (x1,y5) (x1,y2) (x3,y2) = -((y2-y5)*(x3-x1)):=by unfold AE;grind
  have:=Int.mul_ne_zero (show(y2-y5)≠0 by lia) (show(x3-x1)≠0 by lia);omega
 ·show AE (AA (AY x0 x1 x2 x3 x4 x5 y0 y1 y2 y3 y4 y5) (6-2)) (AA (AY x0 x1 x2 x3 x4 x5 y0 y1 y2 y3 y4 y5) (6-1)) (AA (AY x0 x1 x2 x3 x4 x5 y0 y1 y2 y3 y4 y5) 6)≠0;rw[show((6:Int)-2)=4 from rfl,show((6:Int)-1)=5 from rfl,Vw,Vx,Vy];have e:AE (x1,y2) (x3,y2) (x3,y3)=(x3-x1)*(y3-y2):=by unfold AE;grind
  have:=Int.mul_ne_zero (show(x3-x1)≠0 by lia) (show(y3-y2)≠0 by lia);lia
 ·show AE (AA (AY x0 x1 x2 x3 x4 x5 y0 y1 y2 y3 y4 y5) (7-2)) (AA (AY x0 x1 x2 x3 x4 x5 y0 y1 y2 y3 y4 y5) (7-1)) (AA (AY x0 x1 x2 x3 x4 x5 y0 y1 y2 y3 y4 y5) 7)≠0;rw[show((7:Int)-2)=5 from rfl,show((7:Int)-1)=6 from rfl,Vx,Vy,Vz];have e:AE (x3,y2) (x3,y3) (x2,y3) = -((y3-y2)*(x2-x3)):=by unfold AE;grind
  have:=Int.mul_ne_zero (show(y3-y2)≠0 by lia) (show(x2-x3)≠0 by lia);omega
 ·show AE (AA (AY x0 x1 x2 x3 x4 x5 y0 y1 y2 y3 y4 y5) (8-2)) (AA (AY x0 x1 x2 x3 x4 x5 y0 y1 y2 y3 y4 y5) (8-1)) (AA (AY x0 x1 x2 x3 x4 x5 y0 y1 y2 y3 y4 y5) 8)≠0;rw[show((8:Int)-2)=6 from rfl,show((8:Int)-1)=7 from rfl,Vy,Vz,V0];have e:AE (x3,y3) (x2,y3) (x2,y4)=(x2-x3)*(y4-y3):=by unfold AE;grind
  have:=Int.mul_ne_zero (show(x2-x3)≠0 by lia) (show(y4-y3)≠0 by lia);lia
 ·show AE (AA (AY x0 x1 x2 x3 x4 x5 y0 y1 y2 y3 y4 y5) (9-2)) (AA (AY x0 x1 x2 x3 x4 x5 y0 y1 y2 y3 y4 y5) (9-1)) (AA (AY x0 x1 x2 x3 x4 x5 y0 y1 y2 y3 y4 y5) 9)≠0;rw[show((9:Int)-2)=7 from rfl,show((9:Int)-1)=8 from rfl,Vz,V0,V1];have e:AE (x2,y3) (x2,y4) (x4,y4) = -((y4-y3)*(x4-x2)):=by unfold AE;grind
  have:=Int.mul_ne_zero (show(y4-y3)≠0 by lia) (show(x4-x2)≠0 by lia);omega
 ·show AE (AA (AY x0 x1 x2 x3 x4 x5 y0 y1 y2 y3 y4 y5) (10-2)) (AA (AY x0 x1 x2 x3 x4 x5 y0 y1 y2 y3 y4 y5) (10-1)) (AA (AY x0 x1 x2 x3 x4 x5 y0 y1 y2 y3 y4 y5) 10)≠0;rw[show((10:Int)-2)=8 from rfl,show((10:Int)-1)=9 from rfl,V0,V1,dS];have e:AE (x2,y4) (x4,y4) (x4,y1)=(x4-x2)*(y1-y4):=by unfold AE;grind
  have:=Int.mul_ne_zero (show(x4-x2)≠0 by lia) (show(y1-y4)≠0 by lia);lia
 ·show AE (AA (AY x0 x1 x2 x3 x4 x5 y0 y1 y2 y3 y4 y5) (11-2)) (AA (AY x0 x1 x2 x3 x4 x5 y0 y1 y2 y3 y4 y5) (11-1)) (AA (AY x0 x1 x2 x3 x4 x5 y0 y1 y2 y3 y4 y5) 11)≠0;rw[show((11:Int)-2)=9 from rfl,show((11:Int)-1)=10 from rfl,V1,dS,wa];have e:AE (x4,y4) (x4,y1) (x0,y1) = -((y1-y4)*(x0-x4)):=by unfold AE;grind
  have:=Int.mul_ne_zero (show(y1-y4)≠0 by lia) (show(x0-x4)≠0 by lia);omega
theorem vK:M (AY x0 x1 x2 x3 x4 x5 y0 y1 y2 y3 y4 y5) 0 2=false:=AJ.BU (a:=(x0,y0)) (b:=(x5,y0)) (c:=(x5,y5)) (d:=(x1,y5)) (AJ.C1 y0 y5 (by dsimp only;lia) (by dsimp only;lia) (by lia) (by dsimp only;lia) (by dsimp only;lia))
theorem vL:M (AY x0 x1 x2 x3 x4 x5 y0 y1 y2 y3 y4 y5) 0 3=false:=AJ.BU (a:=(x0,y0)) (b:=(x5,y0)) (c:=(x1,y5)) (d:=(x1,y2)) (AJ.C1 y0 y2 (by dsimp only;lia) (by dsimp only;lia) (by lia) (by dsimp only;lia) (by dsimp only;lia))
theorem vM:M (AY x0 x1 x2 x3 x4 x5 y0 y1 y2 y3 y4 y5) 0 4=false:=AJ.BU (a:=(x0,y0)) (b:=(x5,y0)) (c:=(x1,y2)) (d:=(x3,y2)) (AJ.C1 y0 y2 (by dsimp only;lia) (by dsimp only;lia) (by lia) (by dsimp only;lia) (by dsimp only;lia))
theorem vN:M (AY x0 x1 x2 x3 x4 x5 y0 y1 y2 y3 y4 y5) 0 5=false:=AJ.BU (a:=(x0,y0)) (b:=(x5,y0)) (c:=(x3,y2)) (d:=(x3,y3)) (AJ.C1 y0 y2 (by dsimp only;lia) (by dsimp only;lia) (by lia) (by dsimp only;lia) (by dsimp only;lia))
theorem vO:M (AY x0 x1 x2 x3 x4 x5 y0 y1 y2 y3 y4 y5) 0 6=false:=AJ.BU (a:=(x0,y0)) (b:=(x5,y0)) (c:=(x3,y3)) (d:=(x2,y3)) (AJ.C1 y0 y3 (by dsimp only;lia) (by dsimp only;lia) (by lia) (by dsimp only;lia) (by dsimp only;lia))
theorem vP:M (AY x0 x1 x2 x3 x4 x5 y0 y1 y2 y3 y4 y5) 0 7=false:=AJ.BU (a:=(x0,y0)) (b:=(x5,y0)) (c:=(x2,y3)) (d:=(x2,y4)) (AJ.C1 y0 y3 (by dsimp only;lia) (by dsimp only;lia) (by lia) (by dsimp only;lia) (by dsimp only;lia))
theorem vQ:M (AY x0 x1 x2 x3 x4 x5 y0 y1 y2 y3 y4 y5) 0 8=false:=AJ.BU (a:=(x0,y0)) (b:=(x5,y0)) (c:=(x2,y4)) (d:=(x4,y4)) (AJ.C1 y0 y4 (by dsimp only;lia) (by dsimp only;lia) (by lia) (by dsimp only;lia) (by dsimp only;lia))
theorem vR:M (AY x0 x1 x2 x3 x4 x5 y0 y1 y2 y3 y4 y5) 0 9=false:=AJ.BU (a:=(x0,y0)) (b:=(x5,y0)) (c:=(x4,y4)) (d:=(x4,y1)) (AJ.C1 y0 y1 (by dsimp only;lia) (by dsimp only;lia) (by lia) (by dsimp only;lia) (by dsimp only;lia))
theorem vJ:M (AY x0 x1 x2 x3 x4 x5 y0 y1 y2 y3 y4 y5) 0 10=false:=AJ.BU (a:=(x0,y0)) (b:=(x5,y0)) (c:=(x4,y1)) (d:=(x0,y1)) (AJ.C1 y0 y1 (by dsimp only;lia) (by dsimp only;lia) (by lia) (by dsimp only;lia) (by dsimp only;lia))
theorem vV:M (AY x0 x1 x2 x3 x4 x5 y0 y1 y2 y3 y4 y5) 1 3=false:=AJ.BU (a:=(x5,y0)) (b:=(x5,y5)) (c:=(x1,y5)) (d:=(x1,y2)) (λz=>AJ.Cs x1 x5 (by dsimp only;lia) (by dsimp only;lia) (by lia) (by dsimp only;lia) (by dsimp only;lia) z.symm)
theorem vW:M (AY x0 x1 x2 x3 x4 x5 y0 y1 y2 y3 y4 y5) 1 4=false:=AJ.BU (a:=(x5,y0)) (b:=(x5,y5)) (c:=(x1,y2)) (d:=(x3,y2)) (λz=>AJ.Cs x3 x5 (by dsimp only;lia) (by dsimp only;lia) (by lia) (by dsimp only;lia) (by dsimp only;lia) z.symm)
theorem vX:M (AY x0 x1 x2 x3 x4 x5 y0 y1 y2 y3 y4 y5) 1 5=false:=AJ.BU (a:=(x5,y0)) (b:=(x5,y5)) (c:=(x3,y2)) (d:=(x3,y3)) (λz=>AJ.Cs x3 x5 (by dsimp only;lia) (by dsimp only;lia) (by lia) (by dsimp only;lia) (by dsimp only;lia) z.symm)
theorem vY:M (AY x0 x1 x2 x3 x4 x5 y0 y1 y2 y3 y4 y5) 1 6=false:=AJ.BU (a:=(x5,y0)) (b:=(x5,y5)) (c:=(x3,y3)) (d:=(x2,y3)) (λz=>AJ.Cs x3 x5 (by dsimp only;lia) (by dsimp only;lia) (by lia) (by dsimp only;lia) (by dsimp only;lia) z.symm)
theorem vZ:M (AY x0 x1 x2 x3 x4 x5 y0 y1 y2 y3 y4 y5) 1 7=false:=AJ.BU (a:=(x5,y0)) (b:=(x5,y5)) (c:=(x2,y3)) (d:=(x2,y4)) (λz=>AJ.Cs x2 x5 (by dsimp only;lia) (by dsimp only;lia) (by lia) (by dsimp only;lia) (by dsimp only;lia) z.symm)
theorem vc:M (AY x0 x1 x2 x3 x4 x5 y0 y1 y2 y3 y4 y5) 1 8=false:=AJ.BU (a:=(x5,y0)) (b:=(x5,y5)) (c:=(x2,y4)) (d:=(x4,y4)) (λz=>AJ.Cs x4 x5 (by dsimp only;lia) (by dsimp only;lia) (by lia) (by dsimp only;lia) (by dsimp only;lia) z.symm)
theorem vd:M (AY x0 x1 x2 x3 x4 x5 y0 y1 y2 y3 y4 y5) 1 9=false:=AJ.BU (a:=(x5,y0)) (b:=(x5,y5)) (c:=(x4,y4)) (d:=(x4,y1)) (λz=>AJ.Cs x4 x5 (by dsimp only;lia) (by dsimp only;lia) (by lia) (by dsimp only;lia) (by dsimp only;lia) z.symm)
theorem vT:M (AY x0 x1 x2 x3 x4 x5 y0 y1 y2 y3 y4 y5) 1 10=false:=AJ.BU (a:=(x5,y0)) (b:=(x5,y5)) (c:=(x4,y1)) (d:=(x0,y1)) (λz=>AJ.Cs x4 x5 (by dsimp only;lia) (by dsimp only;lia) (by lia) (by dsimp only;lia) (by dsimp only;lia) z.symm)
theorem vU:M (AY x0 x1 x2 x3 x4 x5 y0 y1 y2 y3 y4 y5) 1 11=false:=by
 unfold AJ.M;rw[show(11:Int)+1=12 from rfl,Hi];exact AJ.BU (a:=(x5,y0)) (b:=(x5,y5)) (c:=(x0,y1)) (d:=(x0,y0)) (λz=>AJ.Cs x0 x5 (by dsimp only;lia) (by dsimp only;lia) (by lia) (by dsimp only;lia) (by dsimp only;lia) z.symm)
theorem vg:M (AY x0 x1 x2 x3 x4 x5 y0 y1 y2 y3 y4 y5) 2 4=false:=AJ.BU (a:=(x5,y5)) (b:=(x1,y5)) (c:=(x1,y2)) (d:=(x3,y2)) (λz=>AJ.C1 y2 y5 (by dsimp only;lia) (by dsimp only;lia) (by lia) (by dsimp only;lia) (by dsimp only;lia) z.symm)
theorem vh:M (AY x0 x1 x2 x3 x4 x5 y0 y1 y2 y3 y4 y5) 2 5=false:=AJ.BU (a:=(x5,y5)) (b:=(x1,y5)) (c:=(x3,y2)) (d:=(x3,y3)) (λz=>AJ.C1 y3 y5 (by dsimp only;lia) (by dsimp only;lia) (by lia) (by dsimp only;lia) (by dsimp only;lia) z.symm)
theorem vi:M (AY x0 x1 x2 x3 x4 x5 y0 y1 y2 y3 y4 y5) 2 6=false:=AJ.BU (a:=(x5,y5)) (b:=(x1,y5)) (c:=(x3,y3)) (d:=(x2,y3)) (λz=>AJ.C1 y3 y5 (by dsimp only;lia) (by dsimp only;lia) (by lia) (by dsimp only;lia) (by dsimp only;lia) z.symm)
theorem vj:M (AY x0 x1 x2 x3 x4 x5 y0 y1 y2 y3 y4 y5) 2 7=false:=AJ.BU (a:=(x5,y5)) (b:=(x1,y5)) (c:=(x2,y3)) (d:=(x2,y4)) (λz=>AJ.C1 y4 y5 (by dsimp only;lia) (by dsimp only;lia) (by lia) (by dsimp only;lia) (by dsimp only;lia) z.symm)
theorem vk:M (AY x0 x1 x2 x3 x4 x5 y0 y1 y2 y3 y4 y5) 2 8=false:=AJ.BU (a:=(x5,y5)) (b:=(x1,y5)) (c:=(x2,y4)) (d:=(x4,y4)) (λz=>AJ.C1 y4 y5 (by dsimp only;lia) (by dsimp only;lia) (by lia) (by dsimp only;lia) (by dsimp only;lia) z.symm)
theorem vm:M (AY x0 x1 x2 x3 x4 x5 y0 y1 y2 y3 y4 y5) 2 9=false:=AJ.BU (a:=(x5,y5)) (b:=(x1,y5)) (c:=(x4,y4)) (d:=(x4,y1)) (λz=>AJ.C1 y4 y5 (by dsimp only;lia) (by dsimp only;lia) (by lia) (by dsimp only;lia) (by dsimp only;lia) z.symm)
theorem ve:M (AY x0 x1 x2 x3 x4 x5 y0 y1 y2 y3 y4 y5) 2 10=false:=AJ.BU (a:=(x5,y5)) (b:=(x1,y5)) (c:=(x4,y1)) (d:=(x0,y1)) (λz=>AJ.C1 y1 y5 (by dsimp only;lia) (by dsimp only;lia) (by lia) (by dsimp only;lia) (by dsimp only;lia) z.symm)
theorem vf:M (AY x0 x1 x2 x3 x4 x5 y0 y1 y2 y3 y4 y5) 2 11=false:=by
 unfold AJ.M;rw[show(11:Int)+1=12 from rfl,Hi];exact AJ.BU (a:=(x5,y5)) (b:=(x1,y5)) (c:=(x0,y1)) (d:=(x0,y0)) (λz=>AJ.Cs x0 x1 (by dsimp only;lia) (by dsimp only;lia) (by lia) (by dsimp only;lia) (by dsimp only;lia) z.symm)
theorem vq:M (AY x0 x1 x2 x3 x4 x5 y0 y1 y2 y3 y4 y5) 3 5=false:=AJ.BU (a:=(x1,y5)) (b:=(x1,y2)) (c:=(x3,y2)) (d:=(x3,y3)) (AJ.Cs x1 x3 (by dsimp only;lia) (by dsimp only;lia) (by lia) (by dsimp only;lia) (by dsimp only;lia))
theorem vt:M (AY x0 x1 x2 x3 x4 x5 y0 y1 y2 y3 y4 y5) 3 6=false:=AJ.BU (a:=(x1,y5)) (b:=(x1,y2)) (c:=(x3,y3)) (d:=(x2,y3)) (AJ.Cs x1 x2 (by dsimp only;lia) (by dsimp only;lia) (by lia) (by dsimp only;lia) (by dsimp only;lia))
theorem vv:M (AY x0 x1 x2 x3 x4 x5 y0 y1 y2 y3 y4 y5) 3 7=false:=AJ.BU (a:=(x1,y5)) (b:=(x1,y2)) (c:=(x2,y3)) (d:=(x2,y4)) (AJ.Cs x1 x2 (by dsimp only;lia) (by dsimp only;lia) (by lia) (by dsimp only;lia) (by dsimp only;lia))
theorem vz:M (AY x0 x1 x2 x3 x4 x5 y0 y1 y2 y3 y4 y5) 3 8=false:=AJ.BU (a:=(x1,y5)) (b:=(x1,y2)) (c:=(x2,y4)) (d:=(x4,y4)) (AJ.Cs x1 x2 (by dsimp only;lia) (by dsimp only;lia) (by lia) (by dsimp only;lia) (by dsimp only;lia))
theorem v3:M (AY x0 x1 x2 x3 x4 x5 y0 y1 y2 y3 y4 y5) 3 9=false:=AJ.BU (a:=(x1,y5)) (b:=(x1,y2)) (c:=(x4,y4)) (d:=(x4,y1)) (AJ.Cs x1 x4 (by dsimp only;lia) (by dsimp only;lia) (by lia) (by dsimp only;lia) (by dsimp only;lia))
theorem vn:M (AY x0 x1 x2 x3 x4 x5 y0 y1 y2 y3 y4 y5) 3 10=false:=AJ.BU (a:=(x1,y5)) (b:=(x1,y2)) (c:=(x4,y1)) (d:=(x0,y1)) (λz=>AJ.C1 y1 y2 (by dsimp only;lia) (by dsimp only;lia) (by lia) (by dsimp only;lia) (by dsimp only;lia) z.symm)
theorem vp:M (AY x0 x1 x2 x3 x4 x5 y0 y1 y2 y3 y4 y5) 3 11=false:=by
 unfold AJ.M;rw[show(11:Int)+1=12 from rfl,Hi];exact AJ.BU (a:=(x1,y5)) (b:=(x1,y2)) (c:=(x0,y1)) (d:=(x0,y0)) (λz=>AJ.Cs x0 x1 (by dsimp only;lia) (by dsimp only;lia) (by lia) (by dsimp only;lia) (by dsimp only;lia) z.symm)
theorem wA:M (AY x0 x1 x2 x3 x4 x5 y0 y1 y2 y3 y4 y5) 4 6=false:=AJ.BU (a:=(x1,y2)) (b:=(x3,y2)) (c:=(x3,y3)) (d:=(x2,y3)) (AJ.C1 y2 y3 (by dsimp only;lia) (by dsimp only;lia) (by lia) (by dsimp only;lia) (by dsimp only;lia))
theorem wC:M (AY x0 x1 x2 x3 x4 x5 y0 y1 y2 y3 y4 y5) 4 7=false:=AJ.BU (a:=(x1,y2)) (b:=(x3,y2)) (c:=(x2,y3)) (d:=(x2,y4)) (AJ.C1 y2 y3 (by dsimp only;lia) (by dsimp only;lia) (by lia) (by dsimp only;lia) (by dsimp only;lia))
theorem wD:M (AY x0 x1 x2 x3 x4 x5 y0 y1 y2 y3 y4 y5) 4 8=false:=AJ.BU (a:=(x1,y2)) (b:=(x3,y2)) (c:=(x2,y4)) (d:=(x4,y4)) (AJ.C1 y2 y4 (by dsimp only;lia) (by dsimp only;lia) (by lia) (by dsimp only;lia) (by dsimp only;lia))
theorem wG:M (AY x0 x1 x2 x3 x4 x5 y0 y1 y2 y3 y4 y5) 4 9=false:=AJ.BU (a:=(x1,y2)) (b:=(x3,y2)) (c:=(x4,y4)) (d:=(x4,y1)) (AJ.Cs x3 x4 (by dsimp only;lia) (by dsimp only;lia) (by lia) (by dsimp only;lia) (by dsimp only;lia))
theorem v8:M (AY x0 x1 x2 x3 x4 x5 y0 y1 y2 y3 y4 y5) 4 10=false:=AJ.BU (a:=(x1,y2)) (b:=(x3,y2)) (c:=(x4,y1)) (d:=(x0,y1)) (λz=>AJ.C1 y1 y2 (by dsimp only;lia) (by dsimp only;lia) (by lia) (by dsimp only;lia) (by dsimp only;lia) z.symm)
theorem v9:M (AY x0 x1 x2 x3 x4 x5 y0 y1 y2 y3 y4 y5) 4 11=false:=by
 unfold AJ.M;rw[show(11:Int)+1=12 from rfl,Hi];exact AJ.BU (a:=(x1,y2)) (b:=(x3,y2)) (c:=(x0,y1)) (d:=(x0,y0)) (λz=>AJ.Cs x0 x1 (by dsimp only;lia) (by dsimp only;lia) (by lia) (by dsimp only;lia) (by dsimp only;lia) z.symm)
theorem wJ:M (AY x0 x1 x2 x3 x4 x5 y0 y1 y2 y3 y4 y5) 5 7=false:=AJ.BU (a:=(x3,y2)) (b:=(x3,y3)) (c:=(x2,y3)) (d:=(x2,y4)) (λz=>AJ.Cs x2 x3 (by dsimp only;lia) (by dsimp only;lia) (by lia) (by dsimp only;lia) (by dsimp only;lia) z.symm)
theorem wK:M (AY x0 x1 x2 x3 x4 x5 y0 y1 y2 y3 y4 y5) 5 8=false:=AJ.BU (a:=(x3,y2)) (b:=(x3,y3)) (c:=(x2,y4)) (d:=(x4,y4)) (AJ.C1 y3 y4 (by dsimp only;lia) (by dsimp only;lia) (by lia) (by dsimp only;lia) (by dsimp only;lia))
theorem wL:M (AY x0 x1 x2 x3 x4 x5 y0 y1 y2 y3 y4 y5) 5 9=false:=AJ.BU (a:=(x3,y2)) (b:=(x3,y3)) (c:=(x4,y4)) (d:=(x4,y1)) (AJ.Cs x3 x4 (by dsimp only;lia) (by dsimp only;lia) (by lia) (by dsimp only;lia) (by dsimp only;lia))
theorem wH:M (AY x0 x1 x2 x3 x4 x5 y0 y1 y2 y3 y4 y5) 5 10=false:=AJ.BU (a:=(x3,y2)) (b:=(x3,y3)) (c:=(x4,y1)) (d:=(x0,y1)) (λz=>AJ.C1 y1 y2 (by dsimp only;lia) (by dsimp only;lia) (by lia) (by dsimp only;lia) (by dsimp only;lia) z.symm)
theorem wI:M (AY x0 x1 x2 x3 x4 x5 y0 y1 y2 y3 y4 y5) 5 11=false:=by
 unfold AJ.M;rw[show(11:Int)+1=12 from rfl,Hi];exact AJ.BU (a:=(x3,y2)) (b:=(x3,y3)) (c:=(x0,y1)) (d:=(x0,y0)) (λz=>AJ.Cs x0 x3 (by dsimp only;lia) (by dsimp only;lia) (by lia) (by dsimp only;lia) (by dsimp only;lia) z.symm)
theorem wO:M (AY x0 x1 x2 x3 x4 x5 y0 y1 y2 y3 y4 y5) 6 8=false:=AJ.BU (a:=(x3,y3)) (b:=(x2,y3)) (c:=(x2,y4)) (d:=(x4,y4)) (AJ.C1 y3 y4 (by dsimp only;lia) (by dsimp only;lia) (by lia) (by dsimp only;lia) (by dsimp only;lia))
theorem wQ:M (AY x0 x1 x2 x3 x4 x5 y0 y1 y2 y3 y4 y5) 6 9=false:=AJ.BU (a:=(x3,y3)) (b:=(x2,y3)) (c:=(x4,y4)) (d:=(x4,y1)) (AJ.Cs x3 x4 (by dsimp only;lia) (by dsimp only;lia) (by lia) (by dsimp only;lia) (by dsimp only;lia))
theorem wM:M (AY x0 x1 x2 x3 x4 x5 y0 y1 y2 y3 y4 y5) 6 10=false:=AJ.BU (a:=(x3,y3)) (b:=(x2,y3)) (c:=(x4,y1)) (d:=(x0,y1)) (λz=>AJ.C1 y1 y3 (by dsimp only;lia) (by dsimp only;lia) (by lia) (by dsimp only;lia) (by dsimp only;lia) z.symm)
theorem wN:M (AY x0 x1 x2 x3 x4 x5 y0 y1 y2 y3 y4 y5) 6 11=false:=by
 unfold AJ.M;rw[show(11:Int)+1=12 from rfl,Hi];exact AJ.BU (a:=(x3,y3)) (b:=(x2,y3)) (c:=(x0,y1)) (d:=(x0,y0)) (λz=>AJ.Cs x0 x2 (by dsimp only;lia) (by dsimp only;lia) (by lia) (by dsimp only;lia) (by dsimp only;lia) z.symm)
theorem wV:M (AY x0 x1 x2 x3 x4 x5 y0 y1 y2 y3 y4 y5) 7 9=false:=AJ.BU (a:=(x2,y3)) (b:=(x2,y4)) (c:=(x4,y4)) (d:=(x4,y1)) (AJ.Cs x2 x4 (by dsimp only;lia) (by dsimp only;lia) (by lia) (by dsimp only;lia) (by dsimp only;lia))
theorem wR:M (AY x0 x1 x2 x3 x4 x5 y0 y1 y2 y3 y4 y5) 7 10=false:=AJ.BU (a:=(x2,y3)) (b:=(x2,y4)) (c:=(x4,y1)) (d:=(x0,y1)) (λz=>AJ.C1 y1 y3 (by dsimp only;lia) (by dsimp only;lia) (by lia) (by dsimp only;lia) (by dsimp only;lia) z.symm)
theorem wU:M (AY x0 x1 x2 x3 x4 x5 y0 y1 y2 y3 y4 y5) 7 11=false:=by
 unfold AJ.M;rw[show(11:Int)+1=12 from rfl,Hi];exact AJ.BU (a:=(x2,y3)) (b:=(x2,y4)) (c:=(x0,y1)) (d:=(x0,y0)) (λz=>AJ.Cs x0 x2 (by dsimp only;lia) (by dsimp only;lia) (by lia) (by dsimp only;lia) (by dsimp only;lia) z.symm)
theorem wW:M (AY x0 x1 x2 x3 x4 x5 y0 y1 y2 y3 y4 y5) 8 10=false:=AJ.BU (a:=(x2,y4)) (b:=(x4,y4)) (c:=(x4,y1)) (d:=(x0,y1)) (λz=>AJ.C1 y1 y4 (by dsimp only;lia) (by dsimp only;lia) (by lia) (by dsimp only;lia) (by dsimp only;lia) z.symm)
theorem wX:M (AY x0 x1 x2 x3 x4 x5 y0 y1 y2 y3 y4 y5) 8 11=false:=by
 unfold AJ.M;rw[show(11:Int)+1=12 from rfl,Hi];exact AJ.BU (a:=(x2,y4)) (b:=(x4,y4)) (c:=(x0,y1)) (d:=(x0,y0)) (λz=>AJ.Cs x0 x2 (by dsimp only;lia) (by dsimp only;lia) (by lia) (by dsimp only;lia) (by dsimp only;lia) z.symm)
theorem wY:M (AY x0 x1 x2 x3 x4 x5 y0 y1 y2 y3 y4 y5) 9 11=false:=by
 unfold AJ.M;rw[show(11:Int)+1=12 from rfl,Hi];exact AJ.BU (a:=(x4,y4)) (b:=(x4,y1)) (c:=(x0,y1)) (d:=(x0,y0)) (λz=>AJ.Cs x0 x4 (by dsimp only;lia) (by dsimp only;lia) (by lia) (by dsimp only;lia) (by dsimp only;lia) z.symm)
theorem wd:AJ.K6 (AY x0 x1 x2 x3 x4 x5 y0 y1 y2 y3 y4 y5):=by
 intro k m h0 h1 h2 hn;have xW:m<12:=h2;have hf:=AJ.S4 (by lia) (by have:((AY x0 x1 x2 x3 x4 x5 y0 y1 y2 y3 y4 y5).length:Int)=12:=rfl;lia) hn;unfold AJ.CN at hf;rw[show((AY x0 x1 x2 x3 x4 x5 y0 y1 y2 y3 y4 y5).length:Int)=12 from rfl,Int.emod_eq_of_lt (by lia) (by lia)]at hf;have hk:k=0\/k=1\/k=2\/k=3\/k=4\/k=5\/k=6\/k=7\/k=8\/k=9\/k=10\/k=11:=by lia
 rcases hk with rfl|rfl|rfl|rfl|rfl|rfl|rfl|rfl|rfl|rfl|rfl|rfl
 ·have hm:m=2\/m=3\/m=4\/m=5\/m=6\/m=7\/m=8\/m=9\/m=10:=by lia
  rcases hm with rfl|rfl|rfl|rfl|rfl|rfl|rfl|rfl|rfl
  ·exact vK BJ BH BC BE BK BL BM BN BO BP
  ·exact vL BJ BH BC BE BK BL BM BN BO BP
  ·exact vM BJ BH BC BE BK BL BM BN BO BP
  ·exact vN BJ BH BC BE BK BL BM BN BO BP
  ·exact vO BJ BH BC BE BK BL BM BN BO BP
  ·exact vP BJ BH BC BE BK BL BM BN BO BP
  ·exact vQ BJ BH BC BE BK BL BM BN BO BP
  ·exact vR BJ BH BC BE BK BL BM BN BO BP
  ·exact vJ BJ BH BC BE BK BL BM BN BO BP
 ·have hm:m=3\/m=4\/m=5\/m=6\/m=7\/m=8\/m=9\/m=10\/m=11:=by lia
  rcases hm with rfl|rfl|rfl|rfl|rfl|rfl|rfl|rfl|rfl
  ·exact vV BJ BH BC BE BK BL BM BN BO BP
  ·exact vW BJ BH BC BE BK BL BM BN BO BP
  ·exact vX BJ BH BC BE BK BL BM BN BO BP
  ·exact vY BJ BH BC BE BK BL BM BN BO BP
  ·exact vZ BJ BH BC BE BK BL BM BN BO BP
  ·exact vc BJ BH BC BE BK BL BM BN BO BP
  ·exact vd BJ BH BC BE BK BL BM BN BO BP
  ·exact vT BJ BH BC BE BK BL BM BN BO BP
  ·exact vU BJ BH BC BE BK BL BM BN BO BP
 ·have hm:m=4\/m=5\/m=6\/m=7\/m=8\/m=9\/m=10\/m=11:=by lia
  rcases hm with rfl|rfl|rfl|rfl|rfl|rfl|rfl|rfl
  ·exact vg BJ BH BC BE BK BL BM BN BO BP
  ·exact vh BJ BH BC BE BK BL BM BN BO BP
  ·exact vi BJ BH BC BE BK BL BM BN BO BP
  ·exact vj BJ BH BC BE BK BL BM BN BO BP
  ·exact vk BJ BH BC BE BK BL BM BN BO BP
  ·exact vm BJ BH BC BE BK BL BM BN BO BP
  ·exact ve BJ BH BC BE BK BL BM BN BO BP
  ·exact vf BJ BH BC BE BK BL BM BN BO BP
 ·have hm:m=5\/m=6\/m=7\/m=8\/m=9\/m=10\/m=11:=by lia
  rcases hm with rfl|rfl|rfl|rfl|rfl|rfl|rfl
  ·exact vq BJ BH BC BE BK BL BM BN BO BP
  ·exact vt BJ BH BC BE BK BL BM BN BO BP
  ·exact vv BJ BH BC BE BK BL BM BN BO BP
  ·exact vz BJ BH BC BE BK BL BM BN BO BP
  ·exact v3 BJ BH BC BE BK BL BM BN BO BP
  ·exact vn BJ BH BC BE BK BL BM BN BO BP
  ·exact vp BJ BH BC BE BK BL BM BN BO BP
 ·have hm:m=6\/m=7\/m=8\/m=9\/m=10\/m=11:=by lia
  rcases hm with rfl|rfl|rfl|rfl|rfl|rfl
  ·exact wA BJ BH BC BE BK BL BM BN BO BP
  ·exact wC BJ BH BC BE BK BL BM BN BO BP
  ·exact wD BJ BH BC BE BK BL BM BN BO BP
  ·exact wG BJ BH BC BE BK BL BM BN BO BP
  ·exact v8 BJ BH BC BE BK BL BM BN BO BP
  ·exact v9 BJ BH BC BE BK BL BM BN BO BP
 ·have hm:m=7\/m=8\/m=9\/m=10\/m=11:=by lia
  rcases hm with rfl|rfl|rfl|rfl|rfl
  ·exact wJ BJ BH BC BE BK BL BM BN BO BP
  ·exact wK BJ BH BC BE BK BL BM BN BO BP
  ·exact wL BJ BH BC BE BK BL BM BN BO BP
  ·exact wH BJ BH BC BE BK BL BM BN BO BP
  ·exact wI BJ BH BC BE BK BL BM BN BO BP
 ·have hm:m=8\/m=9\/m=10\/m=11:=by lia
  rcases hm with rfl|rfl|rfl|rfl
  ·exact wO BJ BH BC BE BK BL BM BN BO BP
  ·exact wQ BJ BH BC BE BK BL BM BN BO BP
  ·exact wM BJ BH BC BE BK BL BM BN BO BP
  ·exact wN BJ BH BC BE BK BL BM BN BO BP
 ·have hm:m=9\/m=10\/m=11:=by lia
  rcases hm with rfl|rfl|rfl
  ·exact wV BJ BH BC BE BK BL BM BN BO BP
  ·exact wR BJ BH BC BE BK BL BM BN BO BP
  ·exact wU BJ BH BC BE BK BL BM BN BO BP
 ·have hm:m=10\/m=11:=by lia
  rcases hm with rfl|rfl
  ·exact wW BJ BH BC BE BK BL BM BN BO BP
  ·exact wX BJ BH BC BE BK BL BM BN BO BP
 ·have hm:m=11:=by lia
  rcases hm with rfl
  ·exact wY BJ BH BC BE BK BL BM BN BO BP
 ·lia
 ·lia
theorem we:0<AJ.Ds (AY x0 x1 x2 x3 x4 x5 y0 y1 y2 y3 y4 y5):=by
 have e:AJ.Ds (AY x0 x1 x2 x3 x4 x5 y0 y1 y2 y3 y4 y5)=2*((x1-x0)*(y1-y0)+(x2-x1)*(y1-y0)+(x2-x1)*(y3-y2)+(x2-x1)*(y4-y3)+(x2-x1)*(y5-y4)+(x3-x2)*(y1-y0)+(x3-x2)*(y3-y2)+(x3-x2)*(y5-y4)+(x4-x3)*(y1-y0)+(x4-x3)*(y5-y4)+(x5-x4)*(y1-y0)+(x5-x4)*(y2-y1)+(x5-x4)*(y3-y2)+(x5-x4)*(y4-y3)+(x5-x4)*(y5-y4)):=by
  show 0+AJ.Br (x0,y0) (x5,y0)+AJ.Br (x5,y0) (x5,y5)+AJ.Br (x5,y5) (x1,y5)+AJ.Br (x1,y5) (x1,y2)+AJ.Br (x1,y2) (x3,y2)+AJ.Br (x3,y2) (x3,y3)+AJ.Br (x3,y3) (x2,y3)+AJ.Br (x2,y3) (x2,y4)+AJ.Br (x2,y4) (x4,y4)+AJ.Br (x4,y4) (x4,y1)+AJ.Br (x4,y1) (x0,y1)+AJ.Br (x0,y1) (AA (AY x0 x1 x2 x3 x4 x5 y0 y1 y2 y3 y4 y5) 12)=_;rw[Hi];unfold AJ.Br
  grind
 have yC:=Int.mul_pos (show 0<x1-x0 by lia) (show 0<y1-y0 by lia);have yD:=Int.mul_pos (show 0<x2-x1 by lia) (show 0<y1-y0 by lia);have yE:=Int.mul_pos (show 0<x2-x1 by lia) (show 0<y3-y2 by lia);have yF:=Int.mul_pos (show 0<x2-x1 by lia) (show 0<y4-y3 by lia);have yG:=Int.mul_pos (show 0<x2-x1 by lia) (show 0<y5-y4 by lia);have yH:=Int.mul_pos (show 0<x3-x2 by lia) (show 0<y1-y0 by lia);have yI:=Int.mul_pos (show 0<x3-x2 by lia) (show 0<y3-y2 by lia);have yJ:=Int.mul_pos (show 0<x3-x2 by lia) (show 0<y5-y4 by lia);have yK:=Int.mul_pos (show 0<x4-x3 by lia) (show 0<y1-y0 by lia);have yL:=Int.mul_pos (show 0<x4-x3 by lia) (show 0<y5-y4 by lia);have yM:=Int.mul_pos (show 0<x5-x4 by lia) (show 0<y1-y0 by lia);have yN:=Int.mul_pos (show 0<x5-x4 by lia) (show 0<y2-y1 by lia);have yO:=Int.mul_pos (show 0<x5-x4 by lia) (show 0<y3-y2 by lia);have yP:=Int.mul_pos (show 0<x5-x4 by lia) (show 0<y4-y3 by lia);have yQ:=Int.mul_pos (show 0<x5-x4 by lia) (show 0<y5-y4 by lia);rw[e];lia
theorem wj:(AY x0 x1 x2 x3 x4 x5 y0 y1 y2 y3 y4 y5).Nodup:=by
 unfold AY;refine List.nodup_cons.mpr ⟨by simp;omega,?_⟩;refine List.nodup_cons.mpr ⟨by simp;lia,?_⟩;refine List.nodup_cons.mpr ⟨by simp;lia,?_⟩;refine List.nodup_cons.mpr ⟨by simp;lia,?_⟩;refine List.nodup_cons.mpr ⟨by simp;lia,?_⟩;refine List.nodup_cons.mpr ⟨by simp;lia,?_⟩;refine List.nodup_cons.mpr ⟨by simp;lia,?_⟩;refine List.nodup_cons.mpr ⟨by simp;lia,?_⟩;refine List.nodup_cons.mpr ⟨by simp;lia,?_⟩;refine List.nodup_cons.mpr ⟨by simp;lia,?_⟩;refine List.nodup_cons.mpr ⟨by simp;lia,?_⟩;simp
theorem wk:Rm (AY x0 x1 x2 x3 x4 x5 y0 y1 y2 y3 y4 y5):=
 ⟨by show 3<=12;lia,by show 12<=12;lia,wj BJ BH BC BE BK BL BM BN BO BP,Rv (by show 0<12;lia) (wg BJ BH BC BE BK BL BM BN BO BP),AJ.Rj (by show 2<=12;lia) (wd BJ BH BC BE BK BL BM BN BO BP),we BJ BH BC BE BK BL BM BN BO BP⟩
end
theorem MJ(s:List Int)(k:Int)(i:Nat):wx s k i<wx s k (i+1)/\wx s k (i+1)<=wx s k i+4:=by
 rw[wx];lia
theorem MK(s:List Int)(k:Int)(i:Nat):wy s k i<wy s k (i+1)/\wy s k (i+1)<=wy s k i+4:=by
 rw[wy];lia
theorem dY(s:List Int)(k:Int):∀i:Nat,0<=wx s k i/\wx s k i<=4*i
 |0=>by simp[wx]
 |i+1=>by have:=dY s k i;have:=MJ s k i;lia
theorem dZ(s:List Int)(k:Int):∀i:Nat,0<=wy s k i/\wy s k i<=4*i
 |0=>by simp[wy]
 |i+1=>by have:=dZ s k i;have:=MK s k i;lia
theorem wc(s:List Int)(k:Int):Rm (MI s k)/\∀p∈MI s k,Hn p:=by
 have a0:=MJ s k 0;have a1:=MJ s k 1;have a2:=MJ s k 2;have a3:=MJ s k 3;have a4:=MJ s k 4
 have b0:=MK s k 0;have b1:=MK s k 1;have b2:=MK s k 2;have b3:=MK s k 3;have b4:=MK s k 4
 have z1:wx s k 0=0:=rfl;have z2:wy s k 0=0:=rfl;refine⟨wk a0.1 a1.1 a2.1 a3.1 a4.1 b0.1 b1.1 b2.1 b3.1 b4.1,λp hp=>?_⟩;have key:∀i j:Nat,i<=5->j<=5->Hn (wx s k i,wy s k j):=λi j hi hj=>by
  have h1:=dY s k i;have h2:=dZ s k j;unfold Hn;dsimp only;lia
 unfold MI at hp;simp only[List.mem_cons,List.not_mem_nil,or_false]at hp;rcases hp with rfl|rfl|rfl|rfl|rfl|rfl|rfl|rfl|rfl|rfl|rfl|rfl<;>exact key _ _ (by lia) (by lia)
theorem fg(s:List Int)(k:Int){most:Int}(h1:3<=most)(h2:most<=12):Rm (EE s k most)/\∀p∈EE s k most,Hn p:=by
 unfold EE;split
 ·exact wc s k
 ·have a:=Int.emod_nonneg (Ad s k) (b:=most-2) (by lia);have b:=Int.emod_lt_of_pos (Ad s k) (b:=most-2) (by lia);exact qk s k (by lia) (by lia)
theorem tL{z:Int}(hz:z = -1\/z=0\/z=1){p:Pt}(h:Hn p):Bd 80 (Hg z p):=by
 unfold Hn at h;unfold Bd Hg;dsimp only;rcases hz with rfl|rfl|rfl<;>lia
theorem ZG{i:Int}(h:Dl i<80) : -80<=i/\i<=80:=by
 unfold Dl at h;split at h<;>lia
theorem rF{s:List Int}{k:Int}{r:List Pt}{d:Nat}(h:Rm r/\∀p∈r,Bd 80 p):Rm (L8 s k r d)/\∀p∈L8 s k r d,Bd 80 p:=by
 unfold L8;dsimp only;generalize Ad s (k+15+(d:Int))=c;split
 ·rename_i hc;simp only[Bool.and_eq_true,decide_eq_true_eq]at hc;obtain⟨h1,h2⟩:=hc;rw[jx]at h2;refine⟨((Kl _).mp h2).1,λp hp=>?_⟩;unfold Gy at hp;simp only[List.mem_append,List.mem_singleton]at hp;rcases hp with(hp|rfl)|hp
  ·exact h.2 p (List.mem_of_mem_take hp)
  ·have a:=ZG (i:=(FE r c).1) (by lia);have b:=ZG (i:=(FE r c).2) (by lia);exact⟨a.1,a.2,b.1,b.2⟩
  ·exact h.2 p (List.mem_of_mem_drop hp)
 ·exact h
theorem rE{s:List Int}{k:Int}{r:List Pt}(h:Rm r/\∀p∈r,Bd 80 p):Rm (L7 s k r)/\∀p∈L7 s k r,Bd 80 p:=by
 unfold L7;generalize List.range (Ad s (k+1) / 4%5).toNat=l
 induction l generalizing r with
 |nil=>exact h
 |cons d l ih=>rw[List.foldl_cons];exact ih (rF h)
theorem rH(s:List Int)(k:Int){most:Int}(h1:3<=most)(h2:most<=12):Rm (FF s k most)/\∀p∈FF s k most,Bd 80 p:=by
 have hb:=fg s k h1 h2;refine rE ⟨hb.1.map (mq _),λp hp=>?_⟩;obtain⟨q,hq,rfl⟩:=List.mem_map.mp hp;exact tL (by unfold D1;lia) (hb.2 q hq)
theorem Uk{T:Pt->Pt}(k:Keeps T (-1))(hT:∀p,Bd 80 p->Bd 80 (T p)){r:List Pt}(h:Rm r/\∀p∈r,Bd 80 p):Rm (r.map T).reverse/\∀p∈(r.map T).reverse,Bd 80 p:=
 ⟨h.1.mapRev k,λp hp=>by
  obtain⟨q,hq,rfl⟩:=List.mem_map.mp (List.mem_reverse.mp hp);exact hT q (h.2 q hq)⟩
theorem uw(s:List Int)(k:Int){most:Int}(h1:3<=most)(h2:most<=12):Rm (DB s k most)/\∀p∈DB s k most,Bd 80 p:=by
 have h:=rH s k h1 h2;have t1:Rm (Hh s k (FF s k most))/\∀p∈Hh s k (FF s k most),Bd 80 p:=by
  unfold Hh;split
  ·exact Uk mh (λp hp=>by unfold Bd J9 at *;dsimp only at *;lia) h
  ·exact h
 have t2:Rm (Ku s k (Hh s k (FF s k most)))/\∀p∈Ku s k (Hh s k (FF s k most)),Bd 80 p:=by
  unfold Ku;split
  ·exact Uk mj (λp hp=>by unfold Bd KA at *;dsimp only at *;lia) t1
  ·exact t1
 unfold DB RB;split
 ·exact Uk mw (λp hp=>by unfold Bd Kr at *;dsimp only at *;lia) t2
 ·exact t2
theorem iu(s:List Int)(k:Int){most:Int}(h1:3<=most)(h2:most<=12):Rm (drawn s k most)/\∀p∈drawn s k most,Bd 100 p:=by
 have h:=uw s k h1 h2;have h3:=h.1.l3;have hp:=QR (r:=DB s k most) (by lia) (Ad s (k+3));unfold drawn IQ;refine⟨(h.1.IQ (by lia)).1.map (mm _ _),λp hp=>?_⟩;obtain⟨q,hq,rfl⟩:=List.mem_map.mp hp;have Lj:q∈DB s k most:=by
  rcases List.mem_append.mp hq with z|z
  ·exact List.mem_of_mem_drop z
  ·exact List.mem_of_mem_take z
 have:=h.2 q Lj;unfold Bd JQ at *
 dsimp only at *
 lia
theorem iv(s:List Int)(k:Int){most:Int}(h1:3<=most)(h2:most<=12):Ef (drawn s k most)=true:=(Kl _).mpr (iu s k h1 h2)
open AJ (AE As BZ CF AA M nb Rm)
theorem Xo{f:EF}{ρ:AZ}{r:RV}(e:f ρ=some r):Lc f ρ=some (.nx ρ):=by unfold Lc;rw[e]
theorem il{N n:Nat}{g:SF}{ps:List PV}{ρ:AZ}(h:ps.length=n)(e:g (BX N ps)=some (.nx ρ)):denote N n g ps=some (.cl .Bq):=by
 unfold denote;rw[if_pos h,e];rfl
theorem V3{r:List Pt}(h:Ef r=true):Kv [.lst (AK r)]=some (.cl .Bq):=by
 refine il (ρ:=BX 1 [.lst (AK r)]) rfl ?_;unfold W7;have e:=Ej (BG (BY (ρ:=BX 1 [.lst (AK r)]) (AO (f:=AB 0) (x:=.cl (.lst (AK r))) rfl (Af _)) rfl (dz (r:=r))));rw[h]at e;exact(Bw e).trans rfl
theorem MA{r:List Pt}(h:Ef r=true):3<=r.length/\r.length<=12/\∀p∈r,Bd 1000 p:=by
 obtain⟨R,hb⟩:=(Kl r).mp h;exact⟨R.l3,R.Ng,λp hp=>by have:=hb p hp;unfold Bd at *;lia⟩
theorem X2{t:BF}{f g:EF}{ρ:AZ}(e:t ρ=some true):Iu t f g ρ=f ρ:=by unfold Iu;rw[e]
theorem X1{t:BF}{f g:EF}{ρ:AZ}(e:t ρ=some false):Iu t f g ρ=g ρ:=by unfold Iu;rw[e]
theorem Xz{fa fb fc fd:EF}{ρ:AZ}{i j k l:Int}(ha:fa ρ=some (.cl (.int i)))(hb:fb ρ=some (.cl (.int j)))(hc:fc ρ=some (.cl (.int k)))(hd:fd ρ=some (.cl (.int l))):EW Co CM CM fa fb fc fd ρ=some (.cl (.bl (decide (i<=j)&&(decide (j<k)&&decide (k<l))))):=by
 unfold EW;rw[ha,hb];dsimp only;rw[Gq];cases h:decide (i<=j)
 ·rfl
 ·dsimp only;rw[hc];dsimp only;rw[FY];cases h2:decide (j<k)
  ·rfl
  ·dsimp only;rw[hd];dsimp only;rw[FY];rfl
theorem eQ{a b c:Pt}(ha:Bd 1000 a)(hb:Bd 1000 b):MV [pw a b,pv c]=some (.cl (.bl (AJ.pr a b c))):=by
 refine CT rfl ?_;unfold Xd;rw[sq (Bc (AR (AR (AR rfl rfl (JM a b)) rfl (EA a)) (AR rfl rfl (EA c)) (EJ _ _)) rfl)];rw[sq (Bc (AR (AR (AR rfl rfl (JN a b)) rfl (EA b)) (AR rfl rfl (EA c)) (EJ _ _)) rfl)];unfold AJ.pr;show AQ _ _ [some (.im (pw a b)),some (.im (pv c)),some (.im (.bl (decide (a.2>c.2)))),some (.im (.bl (decide (b.2>c.2)))),none]=_;generalize decide (a.2>c.2)=x;generalize decide (b.2>c.2)=y;have et:AS (f2 CP (AB 2) (AB 3)) [some (.im (pw a b)),some (.im (pv c)),some (.im (.bl x)),some (.im (.bl y)),none]=some (x==y):=BG (AR rfl rfl (mU _ _));have es:Ai 4 (AU D3 (AD (f2 AM (AB 0) (fC (.int 0))) (AD (f2 AM (AB 0) (fC (.int 1))) (AD (AB 1) AI)))) [some (.im (pw a b)),some (.im (pv c)),some (.im (.bl x)),some (.im (.bl y)),none]=some (.nx [some (.im (pw a b)),some (.im (pv c)),some (.im (.bl x)),some (.im (.bl y)),some (.im (.int (AE a b c)))]):=
  Bc (BY (AO (AR rfl rfl (JM a b)) (AO (AR rfl rfl (JN a b)) (AO (x:=.cl (pv c)) rfl (Af _)))) rfl (K1 ha hb)) rfl
 cases x<;>cases y
 ·exact D2 ((CZ et).trans rfl)
 ·rw[sq ((Bw et).trans rfl),sq es];exact Df ((X2 rfl).trans (AR rfl rfl (EJ _ _)))
 ·rw[sq ((Bw et).trans rfl),sq es];exact Df ((X1 rfl).trans (AR rfl rfl (FY _ _)))
 ·exact D2 ((CZ et).trans rfl)
theorem Sv{f:EF}{ρ:AZ}{bs:List Bool}(e:f ρ=some (.fr (bs.map PV.bl))):fB KZ (AD f AI) ρ=some (.cl (.bl (bs.any id))):=by
 refine DX (AO e (Af _)) ?_;simp only[KZ,RV.list,Option.bind_some,Ol,Option.map_some]
def place(ws:List (Pt×Pt))(p:Pt):PySem.Str:=if(ws.any λw=>As w.1 w.2 p)=true then "on" else if((((ws.filter λw=>AJ.pr w.1 w.2 p).length:Int)%2==1)=true)then "in" else "out"
theorem eM{ws:List (Pt×Pt)}{p:Pt}(hl:ws.length<=1000)(hb:∀w∈ws,Bd 1000 w.1/\Bd 1000 w.2):Oa [.lst (BS ws),pv p]=some (.cl (.str (place ws p))):=by
 refine CT rfl ?_;unfold Xe;have FX:(BS ws).length<=1000:=by simpa[BS]using hl
 have c1:collect (Ag 0) B6 (AU Fo (AD (AB 1) (AD (AB 0) AI))) (B8 1 [1] (BX 3 [.lst (BS ws),pv p])) (BS ws)=some ((ws.map λw=>As w.1 w.2 p).map PV.bl):=by
  unfold BS;rw[List.map_map];exact Ij (h:=PV.bl∘λw:Pt×Pt=>As w.1 w.2 p) λw hw=>⟨_,.cl (.bl (As w.1 w.2 p)),rfl,BY (AO (x:=.cl (pv p)) rfl (AO (x:=.cl (pw w.1 w.2)) rfl (Af _))) rfl (MT (hb w hw).1 (hb w hw).2),rfl⟩
 have c2:collect (Ag 0) (AS (AU MV (AD (AB 0) (AD (AB 1) AI)))) (AB 0) (B8 1 [1] (BX 3 [.lst (BS ws),pv p])) (BS ws)=some (BS (ws.filter λw=>AJ.pr w.1 w.2 p)):=by
  unfold BS;exact GY (c:=λw:Pt×Pt=>AJ.pr w.1 w.2 p) (h:=λw:Pt×Pt=>pw w.1 w.2) λw hw=>⟨_,rfl,BG (BY (AO (x:=.cl (pw w.1 w.2)) rfl (AO (x:=.cl (pv p)) rfl (Af _))) rfl (eQ (hb w hw).1 (hb w hw).2)),λ_=>⟨.cl (pw w.1 w.2),rfl,rfl⟩⟩
 have e1:=BG (Sv (EX (its:=Bp false (AB 0)) (Hz (r:=.cl (.lst (BS ws))) (f:=AB 0) (ρ:=BX 3 [.lst (BS ws),pv p]) rfl rfl) FX c1));have e2:=EX (its:=Bp false (AB 0)) (Hz (r:=.cl (.lst (BS ws))) (f:=AB 0) (ρ:=BX 3 [.lst (BS ws),pv p]) rfl rfl) FX c2;rw[show(ws.map λw=>As w.1 w.2 p).any id=ws.any λw=>As w.1 w.2 p by rw[List.any_map];rfl]at e1;unfold place;cases h:ws.any λw=>As w.1 w.2 p with
 |true=>
  rw[h]at e1;exact D2 ((CZ e1).trans rfl)
 |false=>
  rw[h]at e1;rw[sq ((Bw e1).trans rfl),sq (Bc e2 rfl),if_neg (by simp)];have B7:(BS (ws.filter λw=>AJ.pr w.1 w.2 p)).length=(ws.filter λw=>AJ.pr w.1 w.2 p).length:=by simp[BS]
  generalize (ws.filter λw=>AJ.pr w.1 w.2 p)=vs at *
  have el:fB Az (AD (AB 2) AI) ((BX 3 [.lst (BS ws),pv p]).set 2 (some (.im (.lst (BS vs)))))=some (.cl (.int (vs.length:Int))):=by rw[<-B7];rfl
  have e3:=BG (AR (AR el (fb:=fC (.int 2)) rfl (GA (by omega))) (fb:=fC (.int 1)) rfl (T9 _ _));refine Df ?_;cases h3:((vs.length:Int)%2==1)with
  |true=>rw[h3]at e3;exact(X2 e3).trans rfl
  |false=>rw[h3]at e3;exact(X1 e3).trans rfl
theorem UA{a b:PySem.Str}{c:Bool}(ha:PySem.SeqAt.shaped (A1 (.str a))=true)(hb:PySem.SeqAt.shaped (A1 (.str b))=true)(h:(a==b)=c):CP (.cl (.str a)) (.cl (.str b))=some (.cl (.bl c)):=
 ZP ha hb (by rw[<-h];show PySem.PyData.eqv (A1 (.str a)) (A1 (.str b))=_;unfold A1;simp[PySem.PyData.eqv])
theorem qi(ws:List (Pt×Pt))(p:Pt):CP (.cl (.str (place ws p))) (.cl (.str "in"))=some (.cl (.bl (!(ws.any λw=>As w.1 w.2 p)&&(((ws.filter λw=>AJ.pr w.1 w.2 p).length:Int)%2==1)))):=by
 have s1:PySem.SeqAt.shaped (A1 (.str "on"))=true:=by decide +kernel
 have s2:PySem.SeqAt.shaped (A1 (.str "in"))=true:=by decide +kernel
 have s3:PySem.SeqAt.shaped (A1 (.str "out"))=true:=by decide +kernel
 unfold place;cases (ws.any λw=>As w.1 w.2 p)
 ·cases (((ws.filter λw=>AJ.pr w.1 w.2 p).length:Int)%2==1)
  ·exact UA s3 s2 (by decide +kernel)
  ·exact UA s2 s2 (by decide +kernel)
 ·refine UA (a:="on") s1 s2 ?_;show(("on" : PySem.Str)==("in" : PySem.Str))=false
  decide +kernel
theorem Vq{r:List Pt}(hb:∀p∈r,Bd 1000 p):∀w∈Bk r,Bd 1000 w.1/\Bd 1000 w.2:=λw hw=>by
 obtain⟨k,_,rfl⟩:=List.mem_map.mp hw;exact⟨Dt (by omega) hb _,Dt (by omega) hb _⟩
theorem dP(r:List Pt):(Bk r).length=r.length:=by simp[Bk]
theorem ic{r:List Pt}(hb:∀p∈r,Bd 100 p):∀p∈r.map AJ.dbl,Bd 1000 p:=λp hp=>by
 obtain⟨q,hq,rfl⟩:=List.mem_map.mp hp;have:=hb q hq;unfold Bd AJ.dbl at *
 dsimp only;omega
theorem mF(w:List Pt)(p:Pt):(!((Bk w).any λz=>As z.1 z.2 p)&&((((Bk w).filter λz=>AJ.pr z.1 z.2 p).length:Int)%2==1))=AJ.KS w p:=by
 unfold AJ.KS Bk;rw[List.any_map,List.filter_map,List.length_map]
 rfl
theorem eL{r:List Pt}(h1:0<r.length)(hl:r.length<=1000)(hb:∀p∈r,Bd 100 p)(A B:Pt):OZ [.lst (AK r),pw A B]=some (.cl (.bl (AJ.KS (r.map AJ.dbl) (A.1+B.1,A.2+B.2)))):=by
 refine CT rfl ?_;unfold Xb;have c1:collect (Ag 0) B6 (A7 (AD (f2 C7 (fC (.int 2)) (f2 AM (AB 0) (fC (.int 0)))) (AD (f2 C7 (fC (.int 2)) (f2 AM (AB 0) (fC (.int 1)))) AI))) (B8 1 [] (BX 4 [.lst (AK r),pw A B])) (AK r)=some (AK (r.map AJ.dbl)):=by
  unfold AK;rw[List.map_map];exact Ij (h:=pv∘AJ.dbl) λp hp=>⟨_,.cl (pv (AJ.dbl p)),rfl,J6 (AO (AR (x:=.cl (.int 2)) rfl (AR rfl rfl (E9 p)) (Gr (GV (by omega)))) (AO (AR (x:=.cl (.int 2)) rfl (AR rfl rfl (EA p)) (Gr (GV (by omega)))) (Af _))) rfl,rfl⟩
 have e1:=EX (its:=Bp false (AB 0)) (Hz (r:=.cl (.lst (AK r))) (f:=AB 0) (ρ:=BX 4 [.lst (AK r),pw A B]) rfl rfl) (by rw[Dx];exact hl) c1;rw[sq (Bc e1 rfl)];rw[sq (Bc (r:=.cl (pv (A.1+B.1,A.2+B.2))) rfl rfl)];refine Df ?_;have KP:(r.map AJ.dbl).length<=1000:=by simpa using hl
 refine(AR (BY (AO (BY (AO (x:=.cl (.lst (AK (r.map AJ.dbl)))) rfl (Af _)) rfl (Od KP (by simpa using h1))) (AO (x:=.cl (pv (A.1+B.1,A.2+B.2))) rfl (Af _))) rfl (eM (by rw[dP];exact KP) (Vq (ic hb)))) rfl (qi _ _)).trans ?_;rw[mF]
theorem Xv(a b:Pt):PySem.PyData.eqv (A1 (pv a)) (A1 (pv b))=decide (a=b):=by
 have:decide (a=b)=(a.1==b.1&&a.2==b.2):=by
  rw[Bool.eq_iff_iff];simp[Prod.ext_iff]
 rw[this];simp[pv,A1,DA,PySem.PyData.eqv,PySem.PyData.eqvAll]
theorem cF(a:Pt):PySem.SeqAt.shaped (A1 (pv a))=true:=by
 have h1:PySem.PyData.canLay0 (A1 (pv a))=true:=by simp[pv,A1,DA,PySem.PyData.canLay0,PySem.PyData.canLayAll0]
 have h2:PySem.PyData.depth (A1 (pv a))<=1:=by simp[pv,A1,DA,PySem.PyData.depth,PySem.PyData.depthAll]
 unfold PySem.SeqAt.shaped;rw[h1,Bool.true_and,decide_eq_true_eq];omega
theorem ZQ(a c d:Pt):IH true (.cl (pv a)) (.cl (pw c d))=some (.cl (.bl (!(decide (a=c)||decide (a=d))))):=by
 unfold IH;have e:(RV.cl (pw c d)).seq=some [pv c,pv d]:=rfl;rw[e];dsimp only;have hx:(RV.cl (pv a)).any=pv a:=rfl;rw[hx,if_pos ⟨cF a,by unfold cE;simp[cF]⟩,if_pos rfl];unfold inD;rw[List.any_cons,List.any_cons,List.any_nil,Bool.or_false,Xv,Xv,show decide (c=a)=decide (a=c)by simp[eq_comm],show decide (d=a)=decide (a=d)by simp[eq_comm]]
def F1(A B:Pt)(w:Pt×Pt):Bool:=(!(decide (A=w.1)||decide (A=w.2)))&&(!(decide (B=w.1)||decide (B=w.2)))
theorem qr(r:List Pt)(A B:Pt):(((Bk r).filter (F1 A B)).map λw=>BZ A B w.1 w.2).any id=AJ.IL r A B:=by
 unfold AJ.IL Bk;rw[List.any_map,List.any_filter,List.any_map]
 rfl
def J0(n i j:Int):Bool:=(decide (0<=i)&&(decide (i<j)&&decide (j<n)))&&!(nb n (j-i))
def Hf(r:List Pt)(i j:Int):Bool:=J0 r.length i j&&(!AJ.IL r (AA r i) (AA r j)&&AJ.KS (r.map AJ.dbl) ((AA r i).1+(AA r j).1,(AA r i).2+(AA r j).2))
theorem V5{r:List Pt}(h:Ef r=true)(i j:Int):HD [.lst (AK r),.int i,.int j]=some (.cl (.bl (Hf r i j))):=by
 obtain⟨h3,FT,hb⟩:=MA h;have kQ:=((Kl r).mp h).2;refine CT rfl ?_;unfold XC;have el:fB Az (AD (AB 0) AI) (BX 5 [.lst (AK r),.int i,.int j])=some (.cl (.int (r.length:Int))):=Ni r _ rfl;have et:(CU (CA (AS (EW Co CM CM (fC (.int 0)) (AB 1) (AB 2) (fB Az (AD (AB 0) AI))))) (AS (AU GN (AD (fB Az (AD (AB 0) AI)) (AD (AB 1) (AD (AB 2) AI)))))) (BX 5 [.lst (AK r),.int i,.int j])=some (!(J0 r.length i j)):=by
  unfold J0;rw[Bool.not_and,Bool.not_not];exact F0 (Ej (BG (Xz rfl rfl rfl el))) λ_=>BG (BY (AO el (AO (x:=.cl (.int i)) rfl (AO (x:=.cl (.int j)) rfl (Af _)))) rfl (V8 (by omega)))
 unfold Hf;cases hc:J0 r.length i j with
 |false=>
  rw[hc]at et;exact D2 ((CZ et).trans rfl)
 |true=>
  rw[hc]at et;rw[sq ((Bw et).trans rfl),Bool.true_and];have Cg:0<=i/\i<j/\j<r.length:=by
   unfold J0 at hc;simp only[Bool.and_eq_true,decide_eq_true_eq]at hc;exact hc.1
  have e1:A7 (AD (f2 AM (AB 0) (AB 1)) (AD (f2 AM (AB 0) (AB 2)) AI)) (BX 5 [.lst (AK r),.int i,.int j])=some (.cl (pw (AA r i) (AA r j))):=
   J6 (AO (AR rfl rfl (DK r i (by omega) (by omega))) (AO (AR rfl rfl (DK r j (by omega) (by omega))) (Af _))) rfl
  rw[sq (Bc e1 rfl)];show AQ _ _ [some (.im (.lst (AK r))),some (.im (.int i)),some (.im (.int j)),some (.im (pw (AA r i) (AA r j))),none]=_;have bA:=Dt (by omega) hb i;have bB:=Dt (by omega) hb j;generalize AA r i=A at *
  generalize AA r j=B at *
  have FX:(BS (Bk r)).length<=1000:=by simp[BS,Bk];omega
  have c1:collect (Ag 0) (Cd (AS (f2 (IH true) (f2 AM (AB 1) (fC (.int 0))) (AB 0))) (AS (f2 (IH true) (f2 AM (AB 1) (fC (.int 1))) (AB 0)))) (AB 0) (B8 1 [3] [some (.im (.lst (AK r))),some (.im (.int i)),some (.im (.int j)),some (.im (pw A B)),none]) (BS (Bk r))=some (BS ((Bk r).filter (F1 A B))):=by
   unfold BS;exact GY (c:=F1 A B) (h:=λw:Pt×Pt=>pw w.1 w.2) λw hw=>⟨_,rfl,Ir (BG (AR (y:=.cl (pw w.1 w.2)) (AR rfl rfl (JM A B)) rfl (ZQ _ _ _))) λ_=>BG (AR (y:=.cl (pw w.1 w.2)) (AR rfl rfl (JN A B)) rfl (ZQ _ _ _)),λ_=>⟨.cl (pw w.1 w.2),rfl,rfl⟩⟩
  have e2:=EX (its:=Bp false (AU FJ (AD (AB 0) AI))) (ρ:=[some (.im (.lst (AK r))),some (.im (.int i)),some (.im (.int j)),some (.im (pw A B)),none]) (Hz (BY (AO (x:=.cl (.lst (AK r))) rfl (Af _)) rfl (Od (by omega) (by omega))) rfl) FX c1;rw[sq (Bc e2 rfl)];show AQ _ _ [some (.im (.lst (AK r))),some (.im (.int i)),some (.im (.int j)),some (.im (pw A B)),some (.im (.lst (BS ((Bk r).filter (F1 A B)))))]=_;have TV:(BS ((Bk r).filter (F1 A B))).length<=1000:=by
   have:=List.length_filter_le (F1 A B) (Bk r);rw[dP]at this;simp only[BS,List.length_map];omega
  have c2:collect (Ag 0) B6 (AU GP (AD (AB 1) (AD (AB 0) AI))) (B8 1 [3] [some (.im (.lst (AK r))),some (.im (.int i)),some (.im (.int j)),some (.im (pw A B)),some (.im (.lst (BS ((Bk r).filter (F1 A B)))))]) (BS ((Bk r).filter (F1 A B)))=some ((((Bk r).filter (F1 A B)).map λw=>BZ A B w.1 w.2).map PV.bl):=by
   generalize hg:(PV.lst (BS ((Bk r).filter (F1 A B))))=g;clear hg;unfold BS;rw[List.map_map];exact Ij (h:=PV.bl∘λw:Pt×Pt=>BZ A B w.1 w.2) λw hw=>⟨_,.cl (.bl (BZ A B w.1 w.2)),rfl,BY (AO (x:=.cl (pw A B)) rfl (AO (x:=.cl (pw w.1 w.2)) rfl (Af _))) rfl (V7 bA bB (Vq hb w (List.mem_filter.mp hw).1).1 (Vq hb w (List.mem_filter.mp hw).1).2),rfl⟩
  have e3:=BG (Sv (EX (its:=Bp false (AB 4)) (Hz (r:=.cl (.lst (BS ((Bk r).filter (F1 A B))))) (f:=AB 4) (ρ:=[some (.im (.lst (AK r))),some (.im (.int i)),some (.im (.int j)),some (.im (pw A B)),some (.im (.lst (BS ((Bk r).filter (F1 A B)))))]) rfl rfl) TV c2));rw[qr]at e3;cases hp:AJ.IL r A B with
  |true=>
   rw[hp]at e3;exact D2 ((CZ e3).trans rfl)
  |false=>
   rw[hp]at e3;rw[sq ((Bw e3).trans rfl),Bool.not_false,Bool.true_and];exact Df (BY (AO (x:=.cl (.lst (AK r))) rfl (AO (x:=.cl (pw A B)) rfl (Af _))) rfl (eL (by omega) (by omega) kQ A B))
theorem mZ(i a b:Int):Bl false (.cl (.int i)) (.fr [.int a,.int b])=some (.cl (.bl (i==a||i==b))):=by
 simp only[Bl,RV.seq,RV.list,E8,Option.map_some,List.any_cons,List.any_nil,Bool.or_false,Bool.false_eq_true,if_false];rw[Bool.beq_comm (a:=a),Bool.beq_comm (a:=b)]
def GZ(n i j:Int):Bool:=(decide (0<=i)&&(decide (i<j)&&decide (j<n)))&&!((j-i)==1||(j-i)==n-1)
def Lp(r:List Pt)(i j:Int):Bool:=GZ r.length i j&&(!AJ.Kb r i j&&AJ.Mn (AA r (i-1)) (AA r i) (AA r (i+1)) (AA r j))
theorem eK{r:List Pt}(h3:3<=r.length)(FT:r.length<=12)(hb:∀p∈r,Bd 1000 p)(i j:Int):Kz [.lst (AK r),.int i,.int j]=some (.cl (.bl (Lp r i j))):=by
 refine CT rfl ?_;unfold XO;rw[sq (Bc (Ni r (BX 10 [.lst (AK r),.int i,.int j]) rfl) rfl)];show AQ _ _ [some (.im (.lst (AK r))),some (.im (.int i)),some (.im (.int j)),some (.im (.int (r.length:Int))),none,none,none,none,none,none]=_;have et:(CU (CA (AS (EW Co CM CM (fC (.int 0)) (AB 1) (AB 2) (AB 3)))) (AS (f2 (Bl false) (f2 Aj (AB 2) (AB 1)) (B9 (AD (fC (.int 1)) (AD (f2 Aj (AB 3) (fC (.int 1))) AI)))))) [some (.im (.lst (AK r))),some (.im (.int i)),some (.im (.int j)),some (.im (.int (r.length:Int))),none,none,none,none,none,none]=some (!(GZ r.length i j)):=by
  unfold GZ;rw[Bool.not_and,Bool.not_not];exact F0 (Ej (BG (Xz rfl rfl rfl rfl))) λ_=>BG (AR (AR (x:=.cl (.int j)) (y:=.cl (.int i)) rfl rfl (FZ _ _)) (J5 (AO (x:=.cl (.int 1)) rfl (AO (AR (x:=.cl (.int (r.length:Int))) (y:=.cl (.int 1)) rfl rfl (FZ _ _)) (Af _))) rfl) (mZ _ _ _))
 unfold Lp;cases hc:GZ r.length i j with
 |false=>
  rw[hc]at et;exact D2 ((CZ et).trans rfl)
 |true=>
  rw[hc]at et;rw[sq ((Bw et).trans rfl),Bool.true_and];have Cg:0<=i/\i<j/\j<r.length:=by
   unfold GZ at hc;simp only[Bool.and_eq_true,decide_eq_true_eq]at hc;exact hc.1
  rw[sq (aU (p:=pv (AA r i)) (q:=pv (AA r j)) (AO (AR rfl rfl (DK r i (by omega) (by omega))) (AO (AR rfl rfl (DK r j (by omega) (by omega))) (Af _))) rfl)];show AQ _ _ [some (.im (.lst (AK r))),some (.im (.int i)),some (.im (.int j)),some (.im (.int (r.length:Int))),some (.im (pv (AA r i))),some (.im (pv (AA r j))),none,none,none,none]=_;have bc:∀k:Int,Bd 1000 (AA r k):=λk=>Dt (by omega) hb k;have I0:CI (AD (AB 3) AI) [some (.im (.lst (AK r))),some (.im (.int i)),some (.im (.int j)),some (.im (.int (r.length:Int))),some (.im (pv (AA r i))),some (.im (pv (AA r j))),none,none,none,none]=some ((List.range r.length).map λk:Nat=>PV.int (k:Int)):=EY (AO rfl (Af _)) (by omega);have H:=Gv (enc:=λk:Nat=>PV.int (k:Int)) (gt:=Ag 6) (body:=(AQ (Ax (Cd (AS (f2 (Bl true) (AB 6) (B9 (AD (AB 1) (AD (AB 2) AI))))) (AS (AU HE (AD (AB 4) (AD (AB 5) (AD (f2 AM (AB 0) (AB 6)) AI)))))) (Al (fC (.bl false))) A8) (AQ (Ai 7 (f2 BI (f2 Ac (AB 6) (fC (.int 1))) (AB 3))) (Ax (Cd (AS (f2 (Bl true) (AB 6) (B9 (AD (AB 1) (AD (AB 2) AI))))) (AS (f2 (Bl true) (AB 7) (B9 (AD (AB 1) (AD (AB 2) AI)))))) (Ax (AS (AU GO (AD (AB 4) (AD (AB 5) (AD (f2 AM (AB 0) (AB 6)) (AD (f2 AM (AB 0) (AB 7)) AI)))))) (Al (fC (.bl false))) A8) A8))))
   (c:=λk=>((!((k:Int)==i||(k:Int)==j))&&As (AA r i) (AA r j) (AA r k))||(((!((k:Int)==i||(k:Int)==j))&&(!(((k:Int)+1)%(r.length:Int)==i||((k:Int)+1)%(r.length:Int)==j)))&&CF (AA r i) (AA r j) (AA r k) (AA r (((k:Int)+1)%(r.length:Int))))) (r:=.cl (.bl false))
   (λρ=>∃a b,ρ=[some (.im (.lst (AK r))),some (.im (.int i)),some (.im (.int j)),some (.im (.int (r.length:Int))),some (.im (pv (AA r i))),some (.im (pv (AA r j))),a,b,none,none]) (xs:=List.range r.length) (ρ:=[some (.im (.lst (AK r))),some (.im (.int i)),some (.im (.int j)),some (.im (.int (r.length:Int))),some (.im (pv (AA r i))),some (.im (pv (AA r j))),none,none,none,none]) ⟨none,none,rfl⟩ (by
   rintro k hk ρ ⟨a,b,rfl⟩;have CC:=List.mem_range.mp hk;refine⟨_,rfl,?_⟩;have l0:=Int.emod_nonneg ((k:Int)+1) (b:=(r.length:Int)) (by omega);have l1:=Int.emod_lt_of_pos ((k:Int)+1) (b:=(r.length:Int)) (by omega);have O3:(Cd (AS (f2 (Bl true) (AB 6) (B9 (AD (AB 1) (AD (AB 2) AI))))) (AS (AU HE (AD (AB 4) (AD (AB 5) (AD (f2 AM (AB 0) (AB 6)) AI)))))) [some (.im (.lst (AK r))),some (.im (.int i)),some (.im (.int j)),some (.im (.int (r.length:Int))),some (.im (pv (AA r i))),some (.im (pv (AA r j))),some (.im (.int (k:Int))),b,none,none]=some ((!((k:Int)==i||(k:Int)==j))&&As (AA r i) (AA r j) (AA r k)):=
    Ir (BG (AR rfl (J5 (AO (x:=.cl (.int i)) rfl (AO (x:=.cl (.int j)) rfl (Af _))) rfl) (Py _ _ _))) λ_=>BG (BY (AO (x:=.cl (pv (AA r i))) rfl (AO (x:=.cl (pv (AA r j))) rfl (AO (AR rfl rfl (DK r (k:Int) (by omega) (by omega))) (Af _)))) rfl (WA (bc _) (bc _)))
   have es:Ai 7 (f2 BI (f2 Ac (AB 6) (fC (.int 1))) (AB 3)) [some (.im (.lst (AK r))),some (.im (.int i)),some (.im (.int j)),some (.im (.int (r.length:Int))),some (.im (pv (AA r i))),some (.im (pv (AA r j))),some (.im (.int (k:Int))),b,none,none]=some (.nx [some (.im (.lst (AK r))),some (.im (.int i)),some (.im (.int j)),some (.im (.int (r.length:Int))),some (.im (pv (AA r i))),some (.im (pv (AA r j))),some (.im (.int (k:Int))),some (.im (.int (((k:Int)+1)%(r.length:Int)))),none,none]):=
    Bc (AR (AR (x:=.cl (.int (k:Int))) (y:=.cl (.int 1)) rfl rfl (KY _ _)) (y:=.cl (.int (r.length:Int))) rfl (GA (by omega))) rfl
   have Ss:(Cd (AS (f2 (Bl true) (AB 6) (B9 (AD (AB 1) (AD (AB 2) AI))))) (AS (f2 (Bl true) (AB 7) (B9 (AD (AB 1) (AD (AB 2) AI)))))) [some (.im (.lst (AK r))),some (.im (.int i)),some (.im (.int j)),some (.im (.int (r.length:Int))),some (.im (pv (AA r i))),some (.im (pv (AA r j))),some (.im (.int (k:Int))),some (.im (.int (((k:Int)+1)%(r.length:Int)))),none,none]=some ((!((k:Int)==i||(k:Int)==j))&&(!(((k:Int)+1)%(r.length:Int)==i||((k:Int)+1)%(r.length:Int)==j))):=
    Ir (BG (AR rfl (J5 (AO (x:=.cl (.int i)) rfl (AO (x:=.cl (.int j)) rfl (Af _))) rfl) (Py _ _ _))) λ_=>BG (AR rfl (J5 (AO (x:=.cl (.int i)) rfl (AO (x:=.cl (.int j)) rfl (Af _))) rfl) (Py _ _ _))
   have Xx:(AS (AU GO (AD (AB 4) (AD (AB 5) (AD (f2 AM (AB 0) (AB 6)) (AD (f2 AM (AB 0) (AB 7)) AI)))))) [some (.im (.lst (AK r))),some (.im (.int i)),some (.im (.int j)),some (.im (.int (r.length:Int))),some (.im (pv (AA r i))),some (.im (pv (AA r j))),some (.im (.int (k:Int))),some (.im (.int (((k:Int)+1)%(r.length:Int)))),none,none]=some (CF (AA r i) (AA r j) (AA r k) (AA r (((k:Int)+1)%(r.length:Int)))):=
    BG (BY (AO (x:=.cl (pv (AA r i))) rfl (AO (x:=.cl (pv (AA r j))) rfl (AO (AR rfl rfl (DK r (k:Int) (by omega) (by omega))) (AO (AR rfl rfl (DK r (((k:Int)+1)%(r.length:Int)) (by omega) (by omega))) (Af _))))) rfl (V6 (bc _) (bc _) (bc _) (bc _)))
   generalize ((!((k:Int)==i||(k:Int)==j))&&As (AA r i) (AA r j) (AA r k))=b1 at *
   generalize ((!((k:Int)==i||(k:Int)==j))&&(!(((k:Int)+1)%(r.length:Int)==i||((k:Int)+1)%(r.length:Int)==j)))=b2 at *
   generalize CF (AA r i) (AA r j) (AA r k) (AA r (((k:Int)+1)%(r.length:Int)))=b3 at *
   cases b1 with
   |true=>exact⟨λ_=>D2 ((CZ O3).trans rfl),λh=>by simp at h⟩
   |false=>
    cases b2 with
    |false=>exact⟨λh=>by simp at h,λ_=>⟨_,(sq ((Bw O3).trans rfl)).trans ((sq es).trans ((Bw Ss).trans rfl)),_,_,rfl⟩⟩
    |true=>
     cases b3 with
     |false=>exact⟨λh=>by simp at h,λ_=>⟨_,(sq ((Bw O3).trans rfl)).trans ((sq es).trans ((CZ Ss).trans ((Bw Xx).trans rfl))),_,_,rfl⟩⟩
     |true=>exact⟨λ_=>(sq ((Bw O3).trans rfl)).trans ((sq es).trans ((CZ Ss).trans ((CZ Xx).trans rfl))),λh=>by simp at h⟩)
  cases hl:AJ.Kb r i j with
  |true=>exact D2 ((DR I0).trans (H.1 hl))
  |false=>
   obtain⟨ρ',e,a,b,rfl⟩:=H.2 hl;rw[sq ((DR I0).trans e),Bool.not_false,Bool.true_and];have l0:=Int.emod_nonneg (i+1) (b:=(r.length:Int)) (by omega);have l1:=Int.emod_lt_of_pos (i+1) (b:=(r.length:Int)) (by omega);have em:AA r ((i+1)%(r.length:Int))=AA r (i+1):=AJ.Fy r _;have kn:=DK r ((i+1)%(r.length:Int)) (by omega) (by omega);rw[em]at kn;have kp:=DK r (i-1) (by omega) (by omega);have fn:∀x y z w:Option SV,f2 AM (AB 0) (f2 BI (f2 Ac (AB 1) (fC (.int 1))) (AB 3)) [some (.im (.lst (AK r))),some (.im (.int i)),some (.im (.int j)),some (.im (.int (r.length:Int))),some (.im (pv (AA r i))),some (.im (pv (AA r j))),x,y,z,w]=some (.cl (pv (AA r (i+1)))):=λ_ _ _ _=>
    AR rfl (AR (AR (x:=.cl (.int i)) (y:=.cl (.int 1)) rfl rfl (KY _ _)) (y:=.cl (.int (r.length:Int))) rfl (GA (by omega))) kn
   have fp:∀x y z w:Option SV,f2 AM (AB 0) (f2 Aj (AB 1) (fC (.int 1))) [some (.im (.lst (AK r))),some (.im (.int i)),some (.im (.int j)),some (.im (.int (r.length:Int))),some (.im (pv (AA r i))),some (.im (pv (AA r j))),x,y,z,w]=some (.cl (pv (AA r (i-1)))):=λ_ _ _ _=>
    AR rfl (AR (x:=.cl (.int i)) (y:=.cl (.int 1)) rfl rfl (FZ _ _)) kp
   have sd:∀(f g h:EF)(u v w:Pt)(ρ:AZ),Bd 1000 u->Bd 1000 v->f ρ=some (.cl (pv u))->g ρ=some (.cl (pv v))->h ρ=some (.cl (pv w))->f2 Cn (AU Dn (AD f (AD g (AD h AI)))) (fC (.int 0)) ρ=some (.cl (.bl (decide (AE u v w>0)))):=λf g h u v w ρ b1 b2 e1 e2 e3=>
    AR (BY (AO e1 (AO e2 (AO e3 (Af _)))) rfl (Ob b1 b2)) rfl (EJ _ _)
   rw[sq (Bc (sd _ _ _ (AA r i) (AA r (i+1)) (AA r j) _ (bc _) (bc _) rfl (fn _ _ _ _) rfl) rfl)];show AQ _ _ [some (.im (.lst (AK r))),some (.im (.int i)),some (.im (.int j)),some (.im (.int (r.length:Int))),some (.im (pv (AA r i))),some (.im (pv (AA r j))),a,b,some (.im (.bl (decide (AE (AA r i) (AA r (i+1)) (AA r j)>0)))),none]=_;rw[sq (Bc (sd _ _ _ (AA r (i-1)) (AA r i) (AA r j) _ (bc _) (bc _) (fp _ _ _ _) rfl rfl) rfl)];show AQ _ _ [some (.im (.lst (AK r))),some (.im (.int i)),some (.im (.int j)),some (.im (.int (r.length:Int))),some (.im (pv (AA r i))),some (.im (pv (AA r j))),a,b,some (.im (.bl (decide (AE (AA r i) (AA r (i+1)) (AA r j)>0)))),some (.im (.bl (decide (AE (AA r (i-1)) (AA r i) (AA r j)>0))))]=_;have e4:=BG (sd (f2 AM (AB 0) (f2 Aj (AB 1) (fC (.int 1)))) (AB 4) (f2 AM (AB 0) (f2 BI (f2 Ac (AB 1) (fC (.int 1))) (AB 3))) (AA r (i-1)) (AA r i) (AA r (i+1)) [some (.im (.lst (AK r))),some (.im (.int i)),some (.im (.int j)),some (.im (.int (r.length:Int))),some (.im (pv (AA r i))),some (.im (pv (AA r j))),a,b,some (.im (.bl (decide (AE (AA r i) (AA r (i+1)) (AA r j)>0)))),some (.im (.bl (decide (AE (AA r (i-1)) (AA r i) (AA r j)>0))))] (bc _) (bc _) (fp _ _ _ _) rfl (fn _ _ _ _));unfold AJ.Mn;by_cases h4:AE (AA r (i-1)) (AA r i) (AA r (i+1))>0
   ·rw[decide_eq_true h4]at e4;rw[if_pos h4];exact D2 ((CZ e4).trans (Df (LV rfl λ_=>rfl)))
   ·rw[decide_eq_false h4]at e4;rw[if_neg h4,sq ((Bw e4).trans rfl)];exact Df (Sx rfl λ_=>rfl)
theorem Ze{r:List Pt}(h:Ef r=true)(i j:Int):Hf r i j=Lp r i j:=by
 obtain⟨R,_⟩:=(Kl r).mp h;have h3:=R.l3;unfold Hf Lp;have kd:J0 r.length i j=GZ r.length i j:=by
  unfold J0 GZ;cases hd:(decide (0<=i)&&(decide (i<j)&&decide (j<(r.length:Int))))with
  |false=>rfl
  |true=>
   simp only[Bool.and_eq_true,decide_eq_true_eq]at hd;unfold AJ.nb;rw[Int.emod_eq_of_lt (a:=j-i) (by omega) (by omega)]
 rw[kd];cases hc:GZ r.length i j with
 |false=>rfl
 |true=>
  rw[Bool.true_and,Bool.true_and];rw[GZ,Bool.and_eq_true,Bool.and_eq_true,Bool.and_eq_true,decide_eq_true_eq,decide_eq_true_eq,decide_eq_true_eq,Bool.not_eq_true',Bool.or_eq_false_iff,beq_eq_false_iff_ne,beq_eq_false_iff_ne]at hc;obtain⟨⟨a,b,c⟩,d,e⟩:=hc;refine AJ.nL R a (by omega) (by omega) c ?_;have f:AJ.CN r.length (j-i):=by
   unfold AJ.CN;rw[Int.emod_eq_of_lt (a:=j-i) (by omega) (by omega)];exact⟨by omega,d,e⟩
  have:=f.neg (by omega);rw[show -(j-i)=i-j by omega]at this;exact this
def pl(e:Nat×Nat):PV:=.tup [.int (e.1:Int),.int (e.2:Int)]
def FD(n i:Nat):List (Nat×Nat):=(List.range (n-(i+1))).map λt=>(i,i+1+t)
def Gk(r:List Pt)(e:Nat×Nat):Bool:=Hf r (e.1:Int) (e.2:Int)
def FC(r:List Pt):List (Nat×Nat):=(List.range r.length).foldl (λl i=>l++(FD r.length i).filter (Gk r)) []
theorem Zl{r:List Pt}{i j:Nat}:(i,j)∈FC r↔i<j/\j<r.length/\Hf r (i:Int) (j:Int)=true:=by
 have gen:∀(m:Nat)(l:List (Nat×Nat)),(i,j)∈(List.range m).foldl (λl i=>l++(FD r.length i).filter (Gk r)) l↔(i,j)∈l\/(i<m/\i<j/\j<r.length/\Hf r (i:Int) (j:Int)=true):=by
  intro m l
  induction m with
  |zero=>simp
  |succ m ih=>
   rw[List.range_succ,List.foldl_append,List.foldl_cons,List.foldl_nil,List.mem_append,ih,List.mem_filter];have e:(i,j)∈FD r.length m↔i=m/\m<j/\j<r.length:=by
    unfold FD;simp only[List.mem_map,List.mem_range,Prod.mk.injEq];exact⟨λ⟨t,h,e1,e2⟩=>⟨e1.symm,by omega,by omega⟩,λ⟨h1,h2,h3⟩=>⟨j-(m+1),by omega,h1.symm,by omega⟩⟩
   rw[e];unfold Gk;constructor
   ·rintro((h|h)|⟨⟨h1,h2,h3⟩,h4⟩)
    ·exact .inl h
    ·exact .inr ⟨by omega,h.2⟩
    ·subst h1;exact .inr ⟨by omega,h2,h3,h4⟩
   ·rintro(h|⟨h1,h2,h3,h4⟩)
    ·exact .inl (.inl h)
    ·by_cases hm:i=m
     ·subst hm;exact .inr ⟨⟨rfl,h2,h3⟩,h4⟩
     ·exact .inl (.inr ⟨by omega,h2,h3,h4⟩)
 unfold FC;rw[gen];simp only[List.not_mem_nil,false_or];exact⟨λh=>h.2,λh=>⟨by omega,h⟩⟩
theorem Zk(r:List Pt)(h:r.length<=12):∀m,m<=12->((List.range m).foldl (λl i=>l++(FD r.length i).filter (Gk r)) []).length<=12*m:=by
 intro m hm
 induction m with
 |zero=>simp
 |succ m ih=>
  rw[List.range_succ,List.foldl_append,List.foldl_cons,List.foldl_nil,List.length_append];have h1:=ih (by omega);have h2:=List.length_filter_le (Gk r) (FD r.length m);have h3:(FD r.length m).length=r.length-(m+1):=by unfold FD;simp
  omega
theorem X9{g:AF}{ρ:AZ}{i j:Nat}(e:g ρ=some [.cl (.int (i:Int)),.cl (.int (j:Int))])(hi:i<=1000)(hj:j<=1000):El g ρ=some ((List.range (j-i)).map λt:Nat=>PV.int ((i+t:Nat):Int)):=by
 unfold El;rw[e];dsimp only;rw[if_pos (by unfold IV;omega)];unfold Kk;rw[show((j:Int)-(i:Int)).toNat=j-i by omega];simp only[Int.natCast_add]
theorem nZ{i:Nat}{ga:AF}{ρ:AZ}{rs:List RV}{ps zs:List PV}(er:ρ[i]? = some (some (.own ps)))(ea:ga ρ=some rs)(ec:DW rs=some [.lst zs])(h:ps.length+zs.length<=1000):Cy i Ll ga ρ=some (.nx (ρ.set i (some (.own (ps++zs))))):=by
 unfold Cy;rw[er,ea];dsimp only;rw[ec];dsimp only;unfold Ll;dsimp only;rw[if_pos h]
theorem nT{gt:GF}{body:SF}{enc:Nat->PV}(R:Nat->AZ->Prop){n:Nat}{ρ:AZ}(h0:R 0 ρ)(step:∀i,i<n->∀ρ,R i ρ->∃BW Cu,gt (enc i) ρ=some BW/\body BW=some (.nx Cu)/\R (i+1) Cu) : ∃ρ',EB gt body ((List.range n).map enc) ρ=some (.nx ρ')/\R n ρ':=by
 have H:=Nj (enc:=enc) (gt:=gt) (body:=body) (λ(u:Unit)(_:Nat)=>u) (λi _ ρ=>R i ρ) (xs:=List.range n) (n:=0) (b:=()) (ρ:=ρ) h0 λi x hx b ρ hR=>by
  have hi:=(List.getElem?_eq_some_iff.mp hx).1;have BC:=(List.getElem?_eq_some_iff.mp hx).2;simp at hi BC;subst BC;rw[Nat.zero_add]at hR ⊢;exact step i hi ρ hR
 rw[List.length_range,Nat.zero_add]at H;exact H
def Gu(r:List Pt)(m:Nat):List (Nat×Nat):=(List.range m).foldl (λl i=>l++(FD r.length i).filter (Gk r)) []
theorem Zn(r:List Pt)(m:Nat):Gu r (m+1)=Gu r m++(FD r.length m).filter (Gk r):=by
 unfold Gu;rw[List.range_succ,List.foldl_append,List.foldl_cons,List.foldl_nil]
theorem eI{r:List Pt}(h:Ef r=true):MU [.lst (AK r)]=some (.fr ((FC r).map pl)):=by
 obtain⟨h3,FT,_⟩:=MA h;refine CT rfl ?_;unfold XZ;rw[sq (set_own (J5 (Af _) rfl))];show AQ _ _ [some (.im (.lst (AK r))),some (.own []),none]=_;have el:∀x y:Option SV,fB Az (AD (AB 0) AI) [some (.im (.lst (AK r))),x,y]=some (.cl (.int (r.length:Int))):=λ_ _=>by rw[<-Dx];rfl
 obtain⟨ρ',e,x,rfl⟩:=nT (enc:=λk:Nat=>PV.int (k:Int)) (gt:=Ag 2) (body:=(Cy 1 Ll (AD (Bt (El (AD (f2 Ac (AB 2) (fC (.int 1))) (AD (fB Az (AD (AB 0) AI)) AI))) 1 [0,2] (Ag 0) (AS (AU HD (AD (AB 1) (AD (AB 2) (AD (AB 0) AI))))) (A7 (AD (AB 2) (AD (AB 0) AI)))) AI)))
  (λm ρ=>∃x,ρ=[some (.im (.lst (AK r))),some (.own ((Gu r m).map pl)),x]) (n:=r.length) (ρ:=[some (.im (.lst (AK r))),some (.own []),none]) ⟨none,rfl⟩ (by
  rintro i hi ρ ⟨x,rfl⟩;have eR:El (AD (f2 Ac (AB 2) (fC (.int 1))) (AD (fB Az (AD (AB 0) AI)) AI)) [some (.im (.lst (AK r))),some (.own ((Gu r i).map pl)),some (.im (.int (i:Int)))]=some ((List.range (r.length-(i+1))).map λt:Nat=>PV.int ((i+1+t:Nat):Int)):=
   X9 (AO (by exact AR (x:=.cl (.int (i:Int))) (y:=.cl (.int 1)) rfl rfl (by rw[KY];rfl)) (AO (el _ _) (Af _))) (by omega) (by omega)
  have c:collect (Ag 0) (AS (AU HD (AD (AB 1) (AD (AB 2) (AD (AB 0) AI))))) (A7 (AD (AB 2) (AD (AB 0) AI))) (B8 1 [0,2] [some (.im (.lst (AK r))),some (.own ((Gu r i).map pl)),some (.im (.int (i:Int)))]) ((List.range (r.length-(i+1))).map λt:Nat=>PV.int ((i+1+t:Nat):Int))=some (((List.range (r.length-(i+1))).filter λt=>Gk r (i,i+1+t)).map λt=>pl (i,i+1+t)):=
   GY (enc:=λt:Nat=>PV.int ((i+1+t:Nat):Int)) (c:=λt=>Gk r (i,i+1+t)) (h:=λt=>pl (i,i+1+t)) λt ht=>
    ⟨_,rfl,BG (BY (AO (x:=.cl (.lst (AK r))) rfl (AO (x:=.cl (.int (i:Int))) rfl (AO (x:=.cl (.int ((i+1+t:Nat):Int))) rfl (Af _)))) rfl (V5 h _ _)),λ_=>⟨_,J6 (AO (x:=.cl (.int (i:Int))) rfl (AO (x:=.cl (.int ((i+1+t:Nat):Int))) rfl (Af _))) rfl,rfl⟩⟩
  have ec:=EX (own:=1) (cap:=[0,2]) eR (by simp;omega) c;have HW:=Zk r FT i (by omega);have KP:((List.range (r.length-(i+1))).filter λt=>Gk r (i,i+1+t)).length<=r.length:=Nat.le_trans (List.length_filter_le _ _) (by simp);refine⟨_,_,rfl,nZ (ps:=(Gu r i).map pl) rfl (AO ec (Af _)) rfl (by rw[List.length_map,List.length_map];unfold Gu;omega),some (.im (.int (i:Int))),?_⟩;rw[Zn,List.map_append];unfold FD;rw[List.filter_map,List.map_map]
  rfl)
 rw[sq ((DR (EY (AO (el _ _) (Af _)) (by omega))).trans e)]
 rfl
open AJ (AE As BZ CF AA M nb Rm FR DJ)
def Gs(e f:Nat×Nat):Prop:=e.1<f.1\/(e.1=f.1/\e.2<f.2)
theorem Zm(r:List Pt):∀m:Nat,(Gu r m).Pairwise Gs/\∀e∈Gu r m,e.1<m
 |0=>⟨List.Pairwise.nil,λe he=>by unfold Gu at he;cases he⟩
 |m+1=>by
  obtain⟨h1,h2⟩:=Zm r m;rw[Zn];have hp:∀e∈(FD r.length m).filter (Gk r),e.1=m:=λe he=>by
   have:=(List.mem_filter.mp he).1;unfold FD at this;obtain⟨t,_,rfl⟩:=List.mem_map.mp this
   rfl
  refine⟨List.pairwise_append.mpr ⟨h1,?_,λa ha b hb=>?_⟩,λe he=>?_⟩
  ·refine List.Pairwise.filter _ ?_;unfold FD;rw[List.pairwise_map];refine List.pairwise_lt_range.imp λ{a b} h=>?_;exact .inr ⟨rfl,by dsimp only;omega⟩
  ·have:=h2 a ha;have:=hp b hb;unfold Gs;omega
  ·rcases List.mem_append.mp he with he|he
   ·have:=h2 e he;omega
   ·have:=hp e he;omega
theorem nM(r:List Pt):(FC r).Pairwise Gs:=(Zm r r.length).1
theorem Zg{r:List Pt}(h:Ef r=true){i j:Nat}(Cg:i<j)(hj:j<r.length):Hf r (i:Int) (j:Int)=true↔AJ.Line r (i:Int) (j:Int):=by
 obtain⟨R,_⟩:=(Kl r).mp h;have h3:=R.l3;rw[Ze h];unfold Lp;constructor
 ·intro e;rw[Bool.and_eq_true,Bool.and_eq_true,Bool.not_eq_true']at e;obtain⟨hc,hb,hk⟩:=e;rw[GZ,Bool.and_eq_true,Bool.and_eq_true,Bool.and_eq_true,decide_eq_true_eq,decide_eq_true_eq,decide_eq_true_eq,Bool.not_eq_true',Bool.or_eq_false_iff,beq_eq_false_iff_ne,beq_eq_false_iff_ne]at hc;obtain⟨⟨a,b,c⟩,d,e⟩:=hc;have f:AJ.CN r.length ((i:Int)-j):=AJ.Iw (by omega);exact⟨(AJ.P6 R.simple R.DP a (by omega) (by omega) c f).mp hb,AJ.Si.mp hk⟩
 ·rintro⟨p,k⟩;have f:=AJ.Mw (by omega) p.Ce (by omega) (by omega);rw[Bool.and_eq_true,Bool.and_eq_true,Bool.not_eq_true'];refine⟨?_,(AJ.P6 R.simple R.DP (by omega) (by omega) (by omega) (by omega) p.Ce).mpr p,AJ.Si.mpr k⟩;rw[GZ,Bool.and_eq_true,Bool.and_eq_true,Bool.and_eq_true,decide_eq_true_eq,decide_eq_true_eq,decide_eq_true_eq,Bool.not_eq_true',Bool.or_eq_false_iff,beq_eq_false_iff_ne,beq_eq_false_iff_ne];omega
theorem nJ(e:Nat×Nat):¬ Gs e e:=by unfold Gs;omega
structure Good(r:List Pt)(M:List (Nat×Nat)):Prop where
 len:M.length+3=r.length
 lex:M.Pairwise Gs
 ln:∀e∈M,Hf r (e.1:Int) (e.2:Int)=true
 nx:∀e∈M,∀f∈M,AJ.CH e f=false
theorem jy{r:List Pt}(h:Ef r=true):Good r (FR (FC r)):=by
 obtain⟨R,_⟩:=(Kl r).mp h;have hs:=AJ.j0 (FC r);have lex:=(nM r).sublist hs;have Yp:∀e∈FR (FC r),e.1<e.2/\e.2<r.length/\Hf r (e.1:Int) (e.2:Int)=true:=λe he=>Zl.mp (hs.subset he);refine⟨R.count (lex.imp (S:=λa b=>a≠b) λ{a b} k e=>nJ a (by rw[<-e]at k;exact k)) (λe he=>?_) (λe he f hf=>?_) (λi j Cg hj L=>?_),lex,λe he=>(Yp e he).2.2,AJ.YX _⟩
 ·obtain⟨a,b,c⟩:=Yp e he;exact⟨a,b,(Zg h a b).mp c⟩
 ·rw[<-AJ.Oz,AJ.YX _ e he f hf];exact Bool.false_ne_true
 ·rcases AJ.jz (FC r) (i,j) (Zl.mpr ⟨Cg,hj,(Zg h Cg hj).mpr L⟩)with k|⟨f,hf,k⟩
  ·exact .inl k
  ·exact .inr ⟨f,hf,(AJ.Oz _ _).mp k⟩
theorem PB{α:Type}(l:List α):l.filter (λ_=>true)=l:=List.filter_eq_self.mpr λ_ _=>rfl
theorem X3{f:EF}{ρ:AZ}{r:RV}{ps:List PV}(e:f ρ=some r)(h:r.clean=some (.lst ps)):Bp true f ρ=some ps:=by
 unfold Bp;rw[e];dsimp only;rw[if_pos rfl,h]
theorem Zz{i:Nat}{ga:AF}{ρ:AZ}{rs:List RV}{ps:List PV}{p:PV}(er:ρ[i]? = some (some (.own ps)))(ea:ga ρ=some rs)(ec:DW rs=some [p])(h:ps.length<1000):Cy i DS ga ρ=some (.nx (ρ.set i (some (.own (ps ++ [p]))))):=by
 unfold Cy;rw[er,ea];dsimp only;rw[ec];dsimp only;unfold DS;dsimp only;rw[if_pos h]
theorem Sw{F:List PV->Option RV}{g:AF}{ρ:AZ}{rs:List RV}{z:RV}(e:g ρ=some rs)(h:F (rs.map RV.any)=some z):FP F g ρ=some z:=by unfold FP;rw[e];exact h
theorem O5{fa fb fc fd:EF}{ρ:AZ}{i j k l:Int}(ha:fa ρ=some (.cl (.int i)))(hb:fb ρ=some (.cl (.int j)))(hc:fc ρ=some (.cl (.int k)))(hd:fd ρ=some (.cl (.int l))):EW CM CM CM fa fb fc fd ρ=some (.cl (.bl (decide (i<j)&&(decide (j<k)&&decide (k<l))))):=by
 unfold EW;rw[ha,hb];dsimp only;rw[FY];cases h:decide (i<j)
 ·rfl
 ·dsimp only;rw[hc];dsimp only;rw[FY];cases h2:decide (j<k)
  ·rfl
  ·dsimp only;rw[hd];dsimp only;rw[FY];rfl
theorem Gm(e:Nat×Nat):AM (.cl (pl e)) (.cl (.int 0))=some (.cl (.int (e.1:Int))):=rfl
theorem Gn(e:Nat×Nat):AM (.cl (pl e)) (.cl (.int 1))=some (.cl (.int (e.2:Int))):=rfl
theorem Wy(e f:Nat×Nat):((decide ((e.1:Int)<f.1)&&(decide ((f.1:Int)<e.2)&&decide ((e.2:Int)<f.2)))||(decide ((f.1:Int)<e.1)&&(decide ((e.1:Int)<f.2)&&decide ((f.2:Int)<e.2))))=AJ.CH e f:=by
 unfold AJ.CH;simp only[Int.ofNat_lt]
theorem dv(e f:Nat×Nat):MQ [pl e,pl f]=some (.cl (.bl (AJ.CH e f))):=by
 refine CT rfl ?_;unfold W8;rw[<-Wy];exact Df (Sx (O5 (AR rfl rfl (Gm e)) (AR rfl rfl (Gm f)) (AR rfl rfl (Gn e)) (AR rfl rfl (Gn f))) λ_=>O5 (AR rfl rfl (Gm f)) (AR rfl rfl (Gm e)) (AR rfl rfl (Gn f)) (AR rfl rfl (Gn e)))
theorem eH(e f:Nat×Nat):Jk [pl e,pl f]=some (.cl (.bl (AJ.CH e f))):=by
 refine CT rfl ?_;unfold XI;rw[<-Wy];exact Df (Sx (O5 (AR rfl rfl (Gm e)) (AR rfl rfl (Gm f)) (AR rfl rfl (Gn e)) (AR rfl rfl (Gn f))) λ_=>O5 (AR rfl rfl (Gm f)) (AR rfl rfl (Gm e)) (AR rfl rfl (Gn f)) (AR rfl rfl (Gn e)))
theorem jN{f:EF}{ρ:AZ}{b:Bool}(e:f ρ=some (.cl (.bl b))):Iv f ρ=some (.cl (.bl (!b))):=by unfold Iv;rw[e]
theorem V9(e:Nat×Nat){N:List (Nat×Nat)}(hN:N.length<=1000):HC [pl e,.lst (N.map pl)]=some (.cl (.bl (!N.any (AJ.CH e)))):=by
 refine CT rfl ?_;unfold W9;have c:collect (Ag 0) B6 (AU MQ (AD (AB 1) (AD (AB 0) AI))) (B8 1 [0] (BX 2 [pl e,.lst (N.map pl)])) (N.map pl)=some ((N.filter λ_=>true).map λf=>PV.bl (AJ.CH e f)):=
  GY (enc:=pl) (c:=λ_=>true) (h:=λf=>PV.bl (AJ.CH e f)) λf _=>⟨_,rfl,rfl,λ_=>⟨_,BY (AO (x:=.cl (pl e)) rfl (AO (x:=.cl (pl f)) rfl (Af _))) rfl (dv e f),rfl⟩⟩
 have ec:=EX (own:=1) (cap:=[0]) (its:=Bp false (AB 1)) (ρ:=BX 2 [pl e,.lst (N.map pl)]) (Hz (r:=.cl (.lst (N.map pl))) rfl rfl) (by rw[List.length_map];exact hN) c;have ea:=Sv (bs:=N.map λf=>AJ.CH e f) (ec.trans (by rw[PB,List.map_map];rfl));have:=jN ea;rw[List.any_map]at this;exact Df this
theorem dw{r:List Pt}(h:Ef r=true):Kw [.lst (AK r)]=some (.fr ((FR (FC r)).map pl)):=by
 obtain⟨h3,FT,_⟩:=MA h;refine CT rfl ?_;unfold XA;rw[sq (Xo (BY (AO (x:=.cl (.lst (AK r))) rfl (Af _)) rfl (V3 h)))];rw[sq (set_own (J5 (Af _) rfl))];show AQ _ _ [some (.im (.lst (AK r))),some (.own []),none]=_;have hl:(FC r).length<=144:=by
  have:=Zk r FT r.length (by omega);unfold FC;omega
 have el:Bp true (AU MU (AD (AB 0) AI)) [some (.im (.lst (AK r))),some (.own []),none]=some ((FC r).map pl):=X3 (BY (AO (x:=.cl (.lst (AK r))) rfl (Af _)) rfl (eI h)) rfl;obtain⟨ρ',e,x,_,rfl⟩:=Nj (enc:=pl) (gt:=Ag 2) (body:=Ax (AS (FP HC (AD (AB 2) (AD (AB 1) AI)))) (Cy 1 DS (AD (AB 2) AI)) A8) DJ (λn b ρ=>∃x,b.length<=n/\ρ=[some (.im (.lst (AK r))),some (.own (b.map pl)),x]) (xs:=FC r) (n:=0) (b:=[]) (ρ:=[some (.im (.lst (AK r))),some (.own []),none]) ⟨none,Nat.le_refl _,rfl⟩ (by
  rintro i e he N ρ ⟨x,hk,rfl⟩;have hi:=(List.getElem?_eq_some_iff.mp he).1;have et:AS (FP HC (AD (AB 2) (AD (AB 1) AI))) [some (.im (.lst (AK r))),some (.own (N.map pl)),some (.im (pl e))]=some (!N.any (AJ.CH e)):=
   BG (Sw (AO (x:=.cl (pl e)) rfl (AO (x:=.bo (N.map pl)) rfl (Af _))) (V9 e (by omega)))
  cases k:N.any (AJ.CH e)with
  |true=>
   rw[k]at et;refine⟨_,_,rfl,(Bw et).trans rfl,some (.im (pl e)),?_,?_⟩
   ·unfold DJ;rw[if_pos k];omega
   ·unfold DJ;rw[if_pos k]
  |false=>
   rw[k]at et;have em:=Zz (i:=1) (ga:=AD (AB 2) AI) (ρ:=[some (.im (.lst (AK r))),some (.own (N.map pl)),some (.im (pl e))]) (ps:=N.map pl) (p:=pl e) rfl (AO (x:=.cl (pl e)) rfl (Af _)) rfl (by rw[List.length_map];omega);refine⟨_,_,rfl,(CZ et).trans em,some (.im (pl e)),?_,?_⟩
   ·unfold DJ;rw[if_neg (by rw[k];exact Bool.false_ne_true),List.length_append];simp;omega
   ·unfold DJ;rw[if_neg (by rw[k];exact Bool.false_ne_true),List.map_append];rfl)
 rw[sq ((DR el).trans e)]
 rfl
def GC(N:List (Nat×Nat))(k:Nat):Nat×Nat:=N.getD k (0,0)
theorem QI{N:List (Nat×Nat)}{k:Nat}(h:k<N.length):GC N k∈N:=by
 unfold GC;rw[List.getD_eq_getElem?_getD,List.getElem?_eq_getElem h];exact List.getElem_mem h
theorem KW{N:List (Nat×Nat)}{k:Nat}(h:k<N.length):AM (.cl (.lst (N.map pl))) (.cl (.int (k:Int)))=some (.cl (pl (GC N k))):=by
 show(DD (N.map pl) (k:Int)).map _=_;unfold DD Ha GC;rw[if_pos (by omega),if_pos (by rw[List.length_map];omega),Option.bind_some,Int.toNat_natCast,List.getElem?_map,List.getD_eq_getElem?_getD,List.getElem?_eq_getElem h]
 rfl
theorem Su{f:EF}{ρ:AZ}{bs:List Bool}(e:f ρ=some (.fr (bs.map PV.bl))):fB F9 (AD f AI) ρ=some (.cl (.bl (bs.all id))):=by
 refine DX (AO e (Af _)) ?_;simp only[F9,RV.list,Option.bind_some,Ol,Option.map_some]
theorem Good.Zd{r:List Pt}{N:List (Nat×Nat)}(G:Good r N){j k:Nat}(k6:j<k)(hk:k<N.length):Gs (GC N j) (GC N k):=by
 have:=(List.pairwise_iff_getElem.mp G.lex) j k (by omega) hk k6;unfold GC;rw[List.getD_eq_getElem?_getD,List.getD_eq_getElem?_getD,List.getElem?_eq_getElem hk,List.getElem?_eq_getElem (show j<N.length by omega)];exact this
theorem gI{e f:Nat×Nat}(h:Gs e f):LG e.1 e.2 f.1 f.2=true:=by
 unfold LG;unfold Gs at h;exact decide_eq_true (by omega)
theorem gH{e f:Nat×Nat}(h:Gs e f):Jw e.1 e.2 f.1 f.2=false:=by
 unfold Jw;unfold Gs at h;exact decide_eq_false (by omega)
theorem kp(c:Int->Int->Int->Int->Bool)(e f:Nat×Nat):Hd c (.cl (pl e)) (.cl (pl f))=some (.cl (.bl (c e.1 e.2 f.1 f.2))):=rfl
theorem WC(v:Int):Jo [.int v]=some (.cl (.bl true)):=rfl
theorem eY(N:List (Nat×Nat)):Jn [.lst (N.map pl)]=some (.cl (.bl true)):=by
 refine CT rfl ?_;unfold XQ;have e0:CA (AS (IA "list" (AB 0))) (BX 2 [.lst (N.map pl)])=some (!true):=Ej (BG rfl);rw[sq ((Bw e0).trans rfl)];have H:=Gv (enc:=pl) (gt:=Ag 1) (body:=(Ax (CU (CA (AS (O8 (AB 1)))) (CU (AS (f2 C0 (fB Az (AD (AB 1) AI)) (fC (.int 2)))) (CU (CA (AS (AU Jo (AD (f2 AM (AB 1) (fC (.int 0))) AI)))) (CA (AS (AU Jo (AD (f2 AM (AB 1) (fC (.int 1))) AI))))))) (Al (fC (.bl false))) A8)) (c:=λ_=>false) (r:=.cl (.bl false)) (λρ=>∃x,ρ=[some (.im (.lst (N.map pl))),x]) (xs:=N) (ρ:=BX 2 [.lst (N.map pl)]) ⟨none,rfl⟩ (by
  rintro e he ρ ⟨x,rfl⟩;refine⟨_,rfl,λh=>by simp at h,λ_=>⟨_,(Bw (?_:_=some false)).trans rfl,_,rfl⟩⟩;exact F0 (a:=false) (b:=false) (Ej (a:=true) (BG rfl)) λ_=>F0 (a:=false) (b:=false) (BG (AR (x:=.cl (.int 2)) (y:=.cl (.int 2)) rfl rfl (Hc 2 2))) λ_=>
   F0 (a:=false) (b:=false) (Ej (a:=true) (BG (BY (AO (AR (x:=.cl (pl e)) rfl rfl (Gm e)) (Af _)) rfl (WC _)))) λ_=>Ej (a:=true) (BG (BY (AO (AR (x:=.cl (pl e)) rfl rfl (Gn e)) (Af _)) rfl (WC _))))
 obtain⟨ρ',e,x,rfl⟩:=H.2 (by simp);rw[sq ((DR (X3 (r:=.cl (.lst (N.map pl))) rfl rfl)).trans e)]
 rfl
section
variable{r:List Pt}{N:List (Nat×Nat)}(h:Ef r=true)(G:Good r N)
include h G
theorem eJ:Jm [.lst (AK r),.lst (N.map pl)]=some (.cl (.bl true)):=by
 obtain⟨h3,FT,hb⟩:=MA h;have hN:=G.len;refine CT rfl ?_;unfold XN;show AQ _ _ [some (.im (.lst (AK r))),some (.im (.lst (N.map pl))),none]=_;have l1:∀x:Option SV,fB Az (AD (AB 1) AI) [some (.im (.lst (AK r))),some (.im (.lst (N.map pl))),x]=some (.cl (.int (N.length:Int))):=λ_=>DX (AO (x:=.cl (.lst (N.map pl))) rfl (Af _)) (by rw[Lm,List.length_map]);have l0:∀x:Option SV,fB Az (AD (AB 0) AI) [some (.im (.lst (AK r))),some (.im (.lst (N.map pl))),x]=some (.cl (.int (r.length:Int))):=λ_=>DX (AO (x:=.cl (.lst (AK r))) rfl (Af _)) (by rw[Lm,Dx]);have e0:AS (f2 C0 (fB Az (AD (AB 1) AI)) (f2 Aj (fB Az (AD (AB 0) AI)) (fC (.int 3)))) [some (.im (.lst (AK r))),some (.im (.lst (N.map pl))),none]=some (!((N.length:Int)==(r.length:Int)-3)):=BG (AR (l1 _) (AR (l0 _) rfl (FZ _ _)) (Hc _ _));rw[show(!((N.length:Int)==(r.length:Int)-3))=false by simp;omega]at e0;rw[sq ((Bw e0).trans rfl)];have H:=Gv (enc:=λk:Nat=>PV.int (k:Int)) (gt:=Ag 2) (body:=(AQ (Ax (CU (CA (AS (AU Kz (AD (AB 0) (AD (f2 AM (f2 AM (AB 1) (AB 2)) (fC (.int 0))) (AD (f2 AM (f2 AM (AB 1) (AB 2)) (fC (.int 1))) AI)))))) (Cd (AS (f2 Cn (AB 2) (fC (.int 0)))) (AS (f2 (Hd Jw) (f2 AM (AB 1) (f2 Aj (AB 2) (fC (.int 1)))) (f2 AM (AB 1) (AB 2)))))) (Al (fC (.bl false))) A8) (Ax (AS (f2 Cn (fB Az (AD (Bt (CI (AD (AB 2) AI)) 1 [1,2] (Ag 0) (AS (AU Jk (AD (f2 AM (AB 1) (AB 0)) (AD (f2 AM (AB 1) (AB 2)) AI)))) (AB 0)) AI)) (fC (.int 0)))) (Al (fC (.bl false))) A8)))
  (c:=λ_=>false) (r:=.cl (.bl false)) (λρ=>∃x,ρ=[some (.im (.lst (AK r))),some (.im (.lst (N.map pl))),x]) (xs:=List.range N.length) (ρ:=[some (.im (.lst (AK r))),some (.im (.lst (N.map pl))),none]) ⟨none,rfl⟩ (by
  rintro k hk ρ ⟨x,rfl⟩;have hk:=List.mem_range.mp hk;refine⟨_,rfl,λh=>by simp at h,λ_=>⟨[some (.im (.lst (AK r))),some (.im (.lst (N.map pl))),some (.im (.int (k:Int)))],?_,_,rfl⟩⟩;show AQ _ _ [some (.im (.lst (AK r))),some (.im (.lst (N.map pl))),some (.im (.int (k:Int)))]=_;have ek:f2 AM (AB 1) (AB 2) [some (.im (.lst (AK r))),some (.im (.lst (N.map pl))),some (.im (.int (k:Int)))]=some (.cl (pl (GC N k))):=AR (x:=.cl (.lst (N.map pl))) (y:=.cl (.int (k:Int))) rfl rfl (KW hk);have Te:Lp r ((GC N k).1:Int) ((GC N k).2:Int)=true:=by rw[<-Ze h];exact G.ln _ (QI hk)
  have eA:(CU (CA (AS (AU Kz (AD (AB 0) (AD (f2 AM (f2 AM (AB 1) (AB 2)) (fC (.int 0))) (AD (f2 AM (f2 AM (AB 1) (AB 2)) (fC (.int 1))) AI)))))) (Cd (AS (f2 Cn (AB 2) (fC (.int 0)))) (AS (f2 (Hd Jw) (f2 AM (AB 1) (f2 Aj (AB 2) (fC (.int 1)))) (f2 AM (AB 1) (AB 2)))))) [some (.im (.lst (AK r))),some (.im (.lst (N.map pl))),some (.im (.int (k:Int)))]=some false:=by
   refine F0 (a:=false) (b:=false) (Ej (a:=true) (BG ((BY (AO (x:=.cl (.lst (AK r))) rfl (AO (AR ek rfl (Gm _)) (AO (AR ek rfl (Gn _)) (Af _)))) rfl (eK h3 FT hb _ _)).trans (by rw[Te])))) λ_=>?_;by_cases k0:k=0
   ·refine Ir (a:=false) (b:=false) (BG (AR (x:=.cl (.int (k:Int))) (y:=.cl (.int 0)) rfl rfl ?_)) λz=>by cases z
    rw[EJ,k0];rfl
   ·refine Ir (a:=true) (b:=false) (BG (AR (x:=.cl (.int (k:Int))) (y:=.cl (.int 0)) rfl rfl ?_)) λ_=>?_
    ·rw[EJ,show decide ((0:Int)<(k:Int))=true from decide_eq_true (by omega)]
    ·have e1:f2 AM (AB 1) (f2 Aj (AB 2) (fC (.int 1))) [some (.im (.lst (AK r))),some (.im (.lst (N.map pl))),some (.im (.int (k:Int)))]=some (.cl (pl (GC N (k-1)))):=
      AR (x:=.cl (.lst (N.map pl))) (y:=.cl (.int ((k-1:Nat):Int))) rfl (AR (x:=.cl (.int (k:Int))) (y:=.cl (.int 1)) rfl rfl (by rw[FZ,Int.natCast_sub (by omega)];rfl)) (KW (by omega))
     refine BG (AR e1 ek ?_);rw[kp,gH (G.Zd (by omega) hk)]
  have c:collect (Ag 0) (AS (AU Jk (AD (f2 AM (AB 1) (AB 0)) (AD (f2 AM (AB 1) (AB 2)) AI)))) (AB 0) (B8 1 [1,2] [some (.im (.lst (AK r))),some (.im (.lst (N.map pl))),some (.im (.int (k:Int)))]) ((List.range k).map λj:Nat=>PV.int (j:Int))=some (((List.range k).filter λ_=>false).map λj:Nat=>PV.int (j:Int)):=
   GY (enc:=λj:Nat=>PV.int (j:Int)) (c:=λ_=>false) (h:=λj:Nat=>PV.int (j:Int)) λj hj=>by
    have hj:=List.mem_range.mp hj;refine⟨_,rfl,?_,λz=>by cases z⟩;refine BG ((BY (AO (AR (x:=.cl (.lst (N.map pl))) (y:=.cl (.int (j:Int))) rfl rfl (KW (by omega))) (AO (AR (x:=.cl (.lst (N.map pl))) (y:=.cl (.int (k:Int))) rfl rfl (KW hk)) (Af _))) rfl (eH _ _)).trans ?_);rw[G.nx _ (QI (by omega)) _ (QI hk)]
  have ec:=EX (own:=1) (cap:=[1,2]) (its:=CI (AD (AB 2) AI)) (EY (n:=k) (AO (x:=.cl (.int (k:Int))) rfl (Af _)) (by omega)) (by rw[List.length_map,List.length_range];omega) c;have eB:AS (f2 Cn (fB Az (AD (Bt (CI (AD (AB 2) AI)) 1 [1,2] (Ag 0) (AS (AU Jk (AD (f2 AM (AB 1) (AB 0)) (AD (f2 AM (AB 1) (AB 2)) AI)))) (AB 0)) AI)) (fC (.int 0))) [some (.im (.lst (AK r))),some (.im (.lst (N.map pl))),some (.im (.int (k:Int)))]=some false:=by
   refine BG (AR (x:=.cl (.int 0)) (y:=.cl (.int 0)) (DX (AO ec (Af _)) ?_) rfl (EJ 0 0));rw[ZR];simp
  exact(sq ((Bw eA).trans rfl)).trans ((Bw eB).trans rfl))
 obtain⟨ρ',e,x,rfl⟩:=H.2 (by simp);rw[sq ((DR (EY (AO (l1 _) (Af _)) (by omega))).trans e)]
 rfl
theorem eW:MW [.lst (N.map pl)]=some (.cl (.bl true)):=by
 obtain⟨h3,FT,hb⟩:=MA h;have hN:=G.len;refine CT rfl ?_;unfold Xf;have l1:fB Az (AD (AB 0) AI) (BX 1 [.lst (N.map pl)])=some (.cl (.int (N.length:Int))):=DX (AO (x:=.cl (.lst (N.map pl))) rfl (Af _)) (by rw[Lm,List.length_map]);have eR:=X9 (g:=AD (fC (.int 1)) (AD (fB Az (AD (AB 0) AI)) AI)) (ρ:=BX 1 [.lst (N.map pl)]) (i:=1) (j:=N.length) (AO (x:=.cl (.int ((1:Nat):Int))) rfl (AO l1 (Af _))) (by omega) (by omega);have c:collect (Ag 0) B6 (f2 (Hd LG) (f2 AM (AB 1) (f2 Aj (AB 0) (fC (.int 1)))) (f2 AM (AB 1) (AB 0))) (B8 1 [0] (BX 1 [.lst (N.map pl)])) ((List.range (N.length-1)).map λt:Nat=>PV.int ((1+t:Nat):Int))=some (((List.range (N.length-1)).filter λ_=>true).map λ_=>PV.bl true):=
  GY (enc:=λt:Nat=>PV.int ((1+t:Nat):Int)) (c:=λ_=>true) (h:=λ_=>PV.bl true) λt ht=>by
   have ht:=List.mem_range.mp ht;refine⟨_,rfl,rfl,λ_=>⟨.cl (.bl true),?_,rfl⟩⟩;refine AR (AR (x:=.cl (.lst (N.map pl))) (y:=.cl (.int (t:Int))) rfl (AR (x:=.cl (.int ((1+t:Nat):Int))) (y:=.cl (.int 1)) rfl rfl (by rw[FZ,show((1+t:Nat):Int)-1=(t:Int)by omega])) (KW (by omega))) (AR (x:=.cl (.lst (N.map pl))) (y:=.cl (.int ((1+t:Nat):Int))) rfl rfl (KW (by omega))) ?_;rw[kp,gI (G.Zd (by omega) (by omega))]
 have ec:=EX (own:=1) (cap:=[0]) eR (by rw[List.length_map,List.length_range];omega) c;have ea:=Su (bs:=(List.range (N.length-1)).map λ_=>true) (ec.trans (by rw[PB,List.map_map];rfl));rw[show((List.range (N.length-1)).map λ_=>true).all id=true by simp]at ea;exact Df ea
theorem eC:Kx [.lst (AK r),.lst (N.map pl)]=some (.cl (.bl true)):=by
 obtain⟨h3,FT,hb⟩:=MA h;have hN:=G.len;refine CT rfl ?_;unfold XD;rw[sq (Xo (BY (AO (x:=.cl (.lst (AK r))) rfl (Af _)) rfl (V3 h)))];refine Df (BY (AO (x:=.cl (.lst (AK r))) rfl (AO (x:=.cl (.lst (N.map pl))) rfl (Af _))) rfl (CT rfl ?_));unfold XB;show AQ _ _ [some (.im (.lst (AK r))),some (.im (.lst (N.map pl)))]=_;have l1:fB Az (AD (AB 1) AI) [some (.im (.lst (AK r))),some (.im (.lst (N.map pl)))]=some (.cl (.int (N.length:Int))):=DX (AO (x:=.cl (.lst (N.map pl))) rfl (Af _)) (by rw[Lm,List.length_map]);have l0:fB Az (AD (AB 0) AI) [some (.im (.lst (AK r))),some (.im (.lst (N.map pl)))]=some (.cl (.int (r.length:Int))):=DX (AO (x:=.cl (.lst (AK r))) rfl (Af _)) (by rw[Lm,Dx]);have e0:AS (f2 C0 (fB Az (AD (AB 1) AI)) (f2 Aj (fB Az (AD (AB 0) AI)) (fC (.int 3)))) [some (.im (.lst (AK r))),some (.im (.lst (N.map pl)))]=some (!((N.length:Int)==(r.length:Int)-3)):=BG (AR l1 (AR l0 rfl (FZ _ _)) (Hc _ _));rw[show(!((N.length:Int)==(r.length:Int)-3))=false by simp;omega]at e0;rw[sq ((Bw e0).trans rfl)];have cH:collect (Ag 0) B6 (AU HD (AD (AB 1) (AD (f2 AM (AB 0) (fC (.int 0))) (AD (f2 AM (AB 0) (fC (.int 1))) AI)))) (B8 1 [0] [some (.im (.lst (AK r))),some (.im (.lst (N.map pl)))]) (N.map pl)=some ((N.filter λ_=>true).map λ_=>PV.bl true):=
  GY (enc:=pl) (c:=λ_=>true) (h:=λ_=>PV.bl true) λe he=>by
   refine⟨_,rfl,rfl,λ_=>⟨.cl (.bl true),?_,rfl⟩⟩;refine(BY (AO (x:=.cl (.lst (AK r))) rfl (AO (AR (x:=.cl (pl e)) rfl rfl (Gm e)) (AO (AR (x:=.cl (pl e)) rfl rfl (Gn e)) (Af _)))) rfl (V5 h _ _)).trans ?_;rw[G.ln e he]
 have i9:=EX (own:=1) (cap:=[0]) (its:=Bp false (AB 1)) (ρ:=[some (.im (.lst (AK r))),some (.im (.lst (N.map pl)))]) (Hz (r:=.cl (.lst (N.map pl))) rfl rfl) (by rw[List.length_map];omega) cH;have Xr:=Su (bs:=N.map λ_=>true) (i9.trans (by rw[PB,List.map_map];rfl));rw[show(N.map λ_=>true).all id=true by simp]at Xr;have e1:CU (CA (AS (AU MW (AD (AB 1) AI)))) (CA (AS (fB F9 (AD (Bt (Bp false (AB 1)) 1 [0] (Ag 0) B6 (AU HD (AD (AB 1) (AD (f2 AM (AB 0) (fC (.int 0))) (AD (f2 AM (AB 0) (fC (.int 1))) AI))))) AI)))) [some (.im (.lst (AK r))),some (.im (.lst (N.map pl)))]=some false:=
  F0 (a:=false) (b:=false) (Ej (a:=true) (BG (BY (AO (x:=.cl (.lst (N.map pl))) rfl (Af _)) rfl (eW h G)))) λ_=>Ej (a:=true) (BG Xr)
 rw[sq ((Bw e1).trans rfl)];have c:collect (Ag 0) B6 (AU HC (AD (f2 AM (AB 1) (AB 0)) (AD (Dk (AB 1) Dv (Dj (AB 0))) AI))) (B8 1 [1] [some (.im (.lst (AK r))),some (.im (.lst (N.map pl)))]) ((List.range N.length).map λk:Nat=>PV.int (k:Int))=some (((List.range N.length).filter λ_=>true).map λ_=>PV.bl true):=
  GY (enc:=λk:Nat=>PV.int (k:Int)) (c:=λ_=>true) (h:=λ_=>PV.bl true) λk hk=>by
   have hk:=List.mem_range.mp hk;refine⟨_,rfl,rfl,λ_=>⟨.cl (.bl true),?_,rfl⟩⟩;have es:Dk (AB 1) Dv (Dj (AB 0)) [some (.im (.int (k:Int))),some (.im (.lst (N.map pl)))]=some (.fr ((N.take k).map pl)):=by
    unfold Dk Dv Dj;show some (RV.fr (Im (N.map pl) none (some (k:Int))))=_;unfold Im;rw[HT.Ur,HT.Uq,List.length_map,List.drop_zero,Nat.sub_zero,Nat.min_eq_left (by omega),List.map_take]
   refine(BY (AO (AR (x:=.cl (.lst (N.map pl))) (y:=.cl (.int (k:Int))) rfl rfl (KW hk)) (AO es (Af _))) rfl (V9 _ (by rw[List.length_take];omega))).trans ?_;rw[show(N.take k).any (AJ.CH (GC N k))=false from List.any_eq_false.mpr λf hf=>by rw[G.nx _ (QI hk) f (List.mem_of_mem_take hf)];exact Bool.false_ne_true]
   rfl
 have ec:=EX (own:=1) (cap:=[1]) (its:=CI (AD (fB Az (AD (AB 1) AI)) AI)) (ρ:=[some (.im (.lst (AK r))),some (.im (.lst (N.map pl)))]) (EY (AO l1 (Af _)) (by omega)) (by rw[List.length_map,List.length_range];omega) c;have ea:=Su (bs:=(List.range N.length).map λ_=>true) (ec.trans (by rw[PB,List.map_map];rfl));rw[show((List.range N.length).map λ_=>true).all id=true by simp]at ea;exact Df ea
end
theorem mf(a b:Bool):Ka (.cl (.bl a)) (.cl (.bl b))=some (.cl (.bl (!(a==b)))):=rfl
theorem ma(r:List Pt):C0 (.cl (.lst (AK r))) (.cl (.lst (AK r)))=some (.cl (.bl false)):=by
 have:=mV r;unfold CP at this;unfold C0;split at this
 ·rename_i hc;rw[if_pos hc];rw[Option.some.injEq,RV.cl.injEq,PV.bl.injEq]at this;rw[this];rfl
 ·cases this
theorem eG(s:List Int):OV [.rd (A5 s)]=some (.cl (.bl true)):=by
 obtain⟨er,h3,FT⟩:=eX s 0 12 (by omega) (by omega) (by omega);have hr:=iv s 0 (most:=12) (by omega) (by omega);generalize drawn s 0 12=r at *
 have G:=jy hr;have ec:=dw hr;generalize FR (FC r)=N at G ec;have hN:=G.len;refine CT rfl ?_;unfold XF;rw[sq (Bc (BY (AO (x:=.cl (.rd (A5 s))) rfl (AO (x:=.cl (.int 0)) rfl (AO (x:=.cl (.int 12)) rfl (Af _)))) rfl er) rfl)];refine(sq (Bc (r:=.fr (AK r)) rfl rfl)).trans ?_;show AQ _ _ [some (.im (.rd (A5 s))),some (.im (.lst (AK r))),some (.im (.lst (AK r))),none,none]=_;have H:=Gv (enc:=λk:Nat=>PV.int (k:Int)) (gt:=Ag 3) (body:=(AQ (E4 4 (AU Kw (AD (AB 2) AI)))
 (AQ (Ax (CU (CA (AS (FP Jn (AD (AB 4) AI)))) (CU (CA (AS (FP Jm (AD (AB 1) (AD (AB 4) AI))))) (AS (f2 C0 (AB 2) (AB 1))))) (Al (fC (.bl false))) A8)
 (AQ (Ax (AS (f2 Ka (AU Kx (AD (AB 2) (AD (fB Ln (AD (AB 4) AI)) AI))) (fC (.bl true)))) (Al (fC (.bl false))) A8)
 (Cy 4 DS (AD (A7 (AD (fC (.int 0)) (AD (fC (.int 0)) AI))) AI)))))) (c:=λ_=>false) (r:=.cl (.bl false)) (λρ=>∃x y,ρ=[some (.im (.rd (A5 s))),some (.im (.lst (AK r))),some (.im (.lst (AK r))),x,y]) (xs:=List.range 2)
  (ρ:=[some (.im (.rd (A5 s))),some (.im (.lst (AK r))),some (.im (.lst (AK r))),none,none]) ⟨none,none,rfl⟩ (by
  rintro k hk ρ ⟨x,y,rfl⟩;refine⟨_,rfl,λh=>by simp at h,λ_=>?_⟩;have e0:E4 4 (AU Kw (AD (AB 2) AI)) [some (.im (.rd (A5 s))),some (.im (.lst (AK r))),some (.im (.lst (AK r))),some (.im (.int (k:Int))),y]=some (.nx [some (.im (.rd (A5 s))),some (.im (.lst (AK r))),some (.im (.lst (AK r))),some (.im (.int (k:Int))),some (.own (N.map pl))]):=
   set_own (BY (AO (x:=.cl (.lst (AK r))) rfl (Af _)) rfl ec)
  have e1:CU (CA (AS (FP Jn (AD (AB 4) AI)))) (CU (CA (AS (FP Jm (AD (AB 1) (AD (AB 4) AI))))) (AS (f2 C0 (AB 2) (AB 1)))) [some (.im (.rd (A5 s))),some (.im (.lst (AK r))),some (.im (.lst (AK r))),some (.im (.int (k:Int))),some (.own (N.map pl))]=some false:=
   F0 (a:=false) (b:=false) (Ej (a:=true) (BG (Sw (AO (x:=.bo (N.map pl)) rfl (Af _)) (eY N)))) λ_=>
    F0 (a:=false) (b:=false) (Ej (a:=true) (BG (Sw (AO (x:=.cl (.lst (AK r))) rfl (AO (x:=.bo (N.map pl)) rfl (Af _))) (eJ hr G)))) λ_=>BG (AR (x:=.cl (.lst (AK r))) (y:=.cl (.lst (AK r))) rfl rfl (ma r))
  have e2:AS (f2 Ka (AU Kx (AD (AB 2) (AD (fB Ln (AD (AB 4) AI)) AI))) (fC (.bl true))) [some (.im (.rd (A5 s))),some (.im (.lst (AK r))),some (.im (.lst (AK r))),some (.im (.int (k:Int))),some (.own (N.map pl))]=some false:=
   BG (AR (BY (AO (x:=.cl (.lst (AK r))) rfl (AO (x:=.fr (N.map pl)) rfl (Af _))) rfl (eC hr G)) rfl (mf true true))
  have e3:=Zz (i:=4) (ga:=AD (A7 (AD (fC (.int 0)) (AD (fC (.int 0)) AI))) AI) (ρ:=[some (.im (.rd (A5 s))),some (.im (.lst (AK r))),some (.im (.lst (AK r))),some (.im (.int (k:Int))),some (.own (N.map pl))]) (ps:=N.map pl) (p:=.tup [.int 0,.int 0]) rfl (AO (x:=.cl (.tup [.int 0,.int 0])) rfl (Af _)) rfl (by rw[List.length_map];omega);exact⟨_,(sq e0).trans ((sq ((Bw e1).trans rfl)).trans ((sq ((Bw e2).trans rfl)).trans e3)),_,_,rfl⟩)
 obtain⟨ρ',e,x,y,rfl⟩:=H.2 (by simp);rw[sq ((DR (EY (n:=2) (AO (x:=.cl (.int 2)) rfl (Af _)) (by omega))).trans e)]
 rfl
end L2.EV
namespace L2.K
open PySem L2.PL
theorem e9(ns:List Int)(_:ns.length<=63):OV [.rd (ns.map PV.int)]=some (.cl (.bl true)):=L2.EV.eG ns
open PySem PySem.Spec PyProof.Rows L2.PL
set_option maxHeartbeats 4000000
seal PX Eh IZ Dr Eg GS Jq MZ Jr Ma Mb
def top (i : Nat) : Stmt := PySem.Challenge.pw_threewards_k06_whole_a_cut.main.body.getD i (.Pass ⟨0, 0, 0, 0⟩)
section
variable{P:Program}{w:World}{K:W.Frag}{mg:Str->Option Value}{base:Heap}
abbrev U0:Stmt:=top 34
theorem VI:FS ["script","k","base"] ["script","k"] U0:=B2 (by decide +kernel) ⟨[_,_],rfl,rfl⟩
theorem oe(F:FM K mg "_law_cell" U0)(A6:mg "len" = none):Ae P w K mg base "_law_cell" 1 2 Ck:=by
 refine gG F VI λhr hu Bu Bv BQ=>?_;exact(Ab (Bs (CG Dd (AG 1) (Cc A6 (Ak (AG 0))) (Ba _)) (Ah (BB (AV (AG 0) (AG 1)))) Bz)
 (Ab (BR 2 VI.nd AL)
 (Ab (Bs (CG D5 (Cc A6 (Ak (AG 0))) AL (Ba _)) (Ah (BR 2 VI.nd (AV (AG 0) AL))) Bz)
 (Ah (BB (Ct (Bj (Fd (Ct (AG 2) AL) AL) (Fd (AG 1) AL)) AL))))))
abbrev U8:Stmt:=top 36
theorem cA:FS ["one","two","point","across","up"] ["one","two","point"] U8:=B2 (by decide +kernel) ⟨[_,_,_],rfl,rfl⟩
theorem oz(F:FM K mg "_law_side" U8)  : Ae P w K mg base "_law_side" 1 3 Dn:=by
 refine gG F cA λhr hu Bu Bv BQ=>?_;exact(Ab (Ud 3 4 rfl cA.nd (Ap (Bn (AV (AG 1) AL) (AV (AG 0) AL)) (Bn (AV (AG 1) AL) (AV (AG 0) AL))))
 (Ah (BB (Bn (Fd (AG 3) (Bn (AV (AG 2) AL) (AV (AG 0) AL))) (Fd (AG 4) (Bn (AV (AG 2) AL) (AV (AG 0) AL)))))))
abbrev U2:Stmt:=top 37
theorem b7:FS ["room","k"] ["room"] U2:=B2 (by decide +kernel) ⟨[_],rfl,rfl⟩
theorem oh(F:FM K mg "_law_flat" U2)(EG:Ae P w K mg base "_law_side" 1 3 Dn)(Bb:mg "range" = none)(A6:mg "len" = none):Ae P w K mg base "_law_flat" 2 1 Jl:=by
 refine gG F b7 λhr hu Bu Bv BQ=>?_;exact(Ab (Ed rfl PassesOwn.never (Ec Bb (Ak (Cc A6 (Ak (AG 0))))) (Bf 1 b7.nd) (Ah (Bs (CG (GW hu) (A0 (Fn.of EG hr) (Cp (AV (AG 0) (Bn (AG 1) AL)) (AV (AG 0) (Bn (AG 1) AL)) (AV (AG 0) (AG 1))) (Ar:=C8)) AL (Ba _)) (Ah (BB CQ)) Bz)))
 (Ah (BB CQ)))
abbrev Qn:Stmt:=top 38
theorem Ff:FS ["script","k","count","mode","x","low","high","j","cell","y","room"] ["script","k","count"] Qn:=B2 (by decide +kernel) ⟨[_,_,_],rfl,rfl⟩
theorem ow(F:FM K mg "_law_plain_room" Qn)(Di:Ae P w K mg base "_law_cell" 1 2 Ck)(LL:Ae P w K mg base "_law_flat" 2 1 Jl)(Bb:mg "range" = none):Ae P w K mg base "_law_plain_room" 3 3 OW:=by
 refine gG F Ff λhr hu Bu Bv BQ=>?_;exact(Ab (BR 3 Ff.nd (Ct (A0 (Fn.of Di hr) (Ap (AG 0) (Bj (AG 1) AL)) (Ar:=ln2)) AL))
 (Ab (BR 4 Ff.nd AL)
 (Ab (Kj 5 Ff.nd (EL IM))
 (Ab (Kj 6 Ff.nd (EL IM))
 (Ab (Ed rfl PassesOwn.never (QY Bb (Ap AL (Bn (AG 2) AL))) (Bf 7 Ff.nd) (Ab (BR 8 Ff.nd (A0 (Fn.of Di hr) (Ap (AG 0) (Bj (Bj (AG 1) AL) (AG 7))) (Ar:=ln2)))
 (Ab (BR 4 Ff.nd (Bj (Bj (AG 4) AL) (Ct (G0 (AG 8) AL) AL)))
 (Ab (BR 9 Ff.nd (Bj AL (Ct (G0 (AG 8) AL) AL)))
 (Ab (Bs (CG (GW hu) (AG 3) AL (Ba _)) (Ab (BR 4 Ff.nd (AG 7))
 (Ah (BR 9 Ff.nd (Fd (AG 7) (Bn (Bn (AG 2) AL) (AG 7)))))) Bz)
 (Ah (Bs (CG (GW hu) (Ct (AG 8) AL) AL (Ba _)) (Ah (L9 5 (Ak (CD (Ap (AG 4) (Bn AL (AG 9))))))) (Ah (L9 6 (Ak (CD (Ap (AG 4) (AG 9)))))))))))))
 (Ab (BR 10 Ff.nd (Bj (Bj (Bj (EL (Ak (CD (Ap AL AL)))) (AG 5)) (EL (Ak (CD (Ap (Bj (AG 4) AL) AL))))) (QW (AG 6))))
 (Ab (Bs (Cq (A0 (Fn.of LL hr) (Ak (AG 10)) (Ar:=DY))) (Ah (QZ 10 Ff.nd rfl (DQ (Nb:=["j","count"]) (own:=1) (cap:=[2]) (by exact(show DE (Bg Qn).names ["script","k","count","mode","x","low","high","j","cell","y","room"] _ ["j","count"] 1 [2]=true by decide +kernel))) (by decide) Cf (Ec Bb (Ak (AG 2))) (λ_ _ _ _ _=>(Bf 0 (show(["j","count"]:List Str).Nodup by decide +kernel))) (λ_ _ _ _ _=>EC) (λ_ _ _ _ _=>(CD (Ap (AG 0) (Bn AL (Fd (AG 0) (Bn (Bn (AG 1) AL) (AG 0))))))))) Bz)
 (Ah (BB (AG 10))))))))))
abbrev Qo:Stmt:=top 39
theorem MC:FS ["script","k","xs","ys","j","cell","plan"] ["script","k"] Qo:=B2 (by decide +kernel) ⟨[_,_],rfl,rfl⟩
theorem o4(F:FM K mg "_law_winding" Qo)(Di:Ae P w K mg base "_law_cell" 1 2 Ck)(Bb:mg "range" = none):Ae P w K mg base "_law_winding" 2 2 MS:=by
 refine gG F MC λhr hu Bu Bv BQ=>?_;exact(Ab (Kj 2 MC.nd (EL (Ak AL)))
 (Ab (Kj 3 MC.nd (EL (Ak AL)))
 (Ab (Ed rfl PassesOwn.never (Ec Bb (Ak AL)) (Bf 4 MC.nd) (Ab (BR 5 MC.nd (A0 (Fn.of Di hr) (Ap (AG 0) (Bj (Bj (AG 1) AL) (AG 4))) (Ar:=ln2)))
 (Ab (L9 2 (Ak (Bj (Bj (AV (AG 2) (bG AL)) AL) (Ct (AG 5) AL))))
 (Ah (L9 3 (Ak (Bj (Bj (AV (AG 3) (bG AL)) AL) (Ct (G0 (AG 5) AL) AL))))))))
 (Ab (BR 6 MC.nd (EL (DL (CD (Ap AL AL)) (DL (CD (Ap AL AL)) (DL (CD (Ap AL AL)) (DL (CD (Ap AL AL)) (DL (CD (Ap AL AL)) (DL (CD (Ap AL AL)) (DL (CD (Ap AL AL)) (DL (CD (Ap AL AL)) (DL (CD (Ap AL AL)) (DL (CD (Ap AL AL)) (DL (CD (Ap AL AL)) (DL (CD (Ap AL AL)) IM))))))))))))))
 (Ah (BB (Dy rfl (DQ (Nb:=["a","b","xs","ys"]) (own:=2) (cap:=[2,3]) (by exact(show DE (Bg Qo).names ["script","k","xs","ys","j","cell","plan"] _ ["a","b","xs","ys"] 2 [2,3]=true by decide +kernel))) (by decide) (KD (E5 Cf (E5 Cf KG))) (Dz (AG 6)) (λ_ _ _ _ _=>(JS rfl (EM (Bf 0 (show(["a","b","xs","ys"]:List Str).Nodup by decide +kernel)) (EM (Bf 1 (show(["a","b","xs","ys"]:List Str).Nodup by decide +kernel)) JT)))) (λ_ _ _ _ _=>EC) (λ_ _ _ _ _=>(CD (Ap (AV (AG 2) (AG 0)) (AV (AG 3) (AG 1))))))))))))
abbrev Uz:Stmt:=top 44
theorem N9:FS ["room","total","k","one","two"] ["room"] Uz:=B2 (by decide +kernel) ⟨[_],rfl,rfl⟩
theorem oa(F:FM K mg "_law_area" Uz)(Bb:mg "range" = none)(A6:mg "len" = none):Ae P w K mg base "_law_area" 1 1 MR:=by
 refine gG F N9 λhr hu Bu Bv BQ=>?_;exact(Ab (BR 1 N9.nd AL)
 (Ab (Ed rfl PassesOwn.never (Ec Bb (Ak (Cc A6 (Ak (AG 0))))) (Bf 2 N9.nd) (Ab (Ud 3 4 rfl N9.nd (Ap (AV (AG 0) (Bn (AG 2) AL)) (AV (AG 0) (AG 2))))
 (Ah (BR 1 N9.nd (Bn (Bj (AG 1) (Fd (AV (AG 3) AL) (AV (AG 4) AL))) (Fd (AV (AG 3) AL) (AV (AG 4) AL)))))))
 (Ah (BB (AG 1)))))
abbrev U6:Stmt:=top 42
theorem VJ:FS ["one","two","point","low","high"] ["one","two","point"] U6:=B2 (by decide +kernel) ⟨[_,_,_],rfl,rfl⟩
theorem ov(F:FM K mg "_law_on" U6)(EG:Ae P w K mg base "_law_side" 1 3 Dn)(Ie:mg "min" = none)(E1:mg "max" = none):Ae P w K mg base "_law_on" 2 3 HE:=by
 refine gG F VJ λhr hu Bu Bv BQ=>?_;exact(Ab (Bs (CG (GX hu) (A0 (Fn.of EG hr) (Cp (AG 0) (AG 1) (AG 2)) (Ar:=C8)) AL (Ba _)) (Ah (BB CQ)) Bz)
 (Ab (BR 3 VJ.nd (CD (Ap (C9 (Ou BQ) QM Ie Om (Ap (AV (AG 0) AL) (AV (AG 1) AL))) (C9 (Ou BQ) QM Ie Om (Ap (AV (AG 0) AL) (AV (AG 1) AL))))))
 (Ab (BR 4 VJ.nd (CD (Ap (C9 (LQ BQ) L4 E1 LF (Ap (AV (AG 0) AL) (AV (AG 1) AL))) (C9 (LQ BQ) L4 E1 LF (Ap (AV (AG 0) AL) (AV (AG 1) AL))))))
 (Ah (BB (Gz (QT EH EH (AV (AG 3) AL) (AV (AG 2) AL) (AV (AG 4) AL)) (Eb (QT EH EH (AV (AG 3) AL) (AV (AG 2) AL) (AV (AG 4) AL)))))))))
abbrev U5:Stmt:=top 43
theorem Ko:FS ["one","two","three","four","some","a","b","point","first"] ["one","two","three","four"] U5:=B2 (by decide +kernel) ⟨[_,_,_,_],rfl,rfl⟩
theorem ou(F:FM K mg "_law_meet" U5)(LN:Ae P w K mg base "_law_on" 2 3 HE)(EG:Ae P w K mg base "_law_side" 1 3 Dn):Ae P w K mg base "_law_meet" 3 4 GO:=by
 refine gG F Ko λhr hu Bu Bv BQ=>?_;exact(Ab (BR 4 Ko.nd (EL (Ap (CD (Cp (AG 0) (AG 1) (AG 2))) (CD (Cp (AG 0) (AG 1) (AG 3))))))
 (Ab (BR 4 Ko.nd (Bj (AG 4) (EL (Ap (CD (Cp (AG 2) (AG 3) (AG 0))) (CD (Cp (AG 2) (AG 3) (AG 1)))))))
 (Ab (Ed rfl PassesOwn.never (Dz (AG 4)) (JS rfl (EM (Bf 5 Ko.nd) (EM (Bf 6 Ko.nd) (EM (Bf 7 Ko.nd) JT)))) (Ah (Bs (Cq (A0 (Fn.of LN hr) (Cp (AG 5) (AG 6) (AG 7)) (Ar:=C8))) (Ah (BB CQ)) Bz)))
 (Ab (BR 8 Ko.nd (DU (GX hu) (DU D5 (A0 (Fn.of EG hr) (Cp (AG 0) (AG 1) (AG 2)) (Ar:=C8)) AL (Ba _)) (DU D5 (A0 (Fn.of EG hr) (Cp (AG 0) (AG 1) (AG 3)) (Ar:=C8)) AL (Ba _)) (Ba _)))
 (Ah (BB (Gz (AG 8) (Eb (DU (GX hu) (DU D5 (A0 (Fn.of EG hr) (Cp (AG 2) (AG 3) (AG 0)) (Ar:=C8)) AL (Ba _)) (DU D5 (A0 (Fn.of EG hr) (Cp (AG 2) (AG 3) (AG 1)) (Ar:=C8)) AL (Ba _)) (Ba _))))))))))
abbrev Ql:Stmt:=top 45
theorem Qt:FS ["room","count","k","j"] ["room"] Ql:=B2 (by decide +kernel) ⟨[_],rfl,rfl⟩
theorem om(F:FM K mg "_law_good" Ql)(LL:Ae P w K mg base "_law_flat" 2 1 Jl)(SI:Ae P w K mg base "_law_area" 1 1 MR)(LM:Ae P w K mg base "_law_meet" 3 4 GO)(A6:mg "len" = none)(Fu:mg "abs" = none)(E1:mg "max" = none)(K9:mg "set" = none)(Bb:mg "range" = none):Ae P w K mg base "_law_good" 4 1 Ky:=by
 refine gG F Qt λhr hu Bu Bv BQ=>?_;exact(Ab (BR 1 Qt.nd (Cc A6 (Ak (AG 0))))
 (Ab (Bs (Ee (GH (Et (bL EH EH AL (AG 1) AL)) (JW (CG D5 (Cc A6 (Ak (Dy rfl (DQ (Nb:=["x","y"]) (own:=2) (cap:=[]) (by exact(show DE (Bg Ql).names ["room","count","k","j"] _ ["x","y"] 2 []=true by decide +kernel))) (by decide) (KD (E5 Cf (E5 Cf KG))) (Dz (AG 0)) (λ_ _ _ _ _=>(JS rfl (EM (Bf 0 (show(["x","y"]:List Str).Nodup by decide +kernel)) (EM (Bf 1 (show(["x","y"]:List Str).Nodup by decide +kernel)) JT)))) (λ_ _ _ _ _=>(N2 (CG D5 (C9 (LQ BQ) L4 E1 LF (Ap (C9 LP L3 Fu LD (Ak (AG 0))) (C9 LP L3 Fu LD (Ak (AG 1))))) AL (Ba _)))) (λ_ _ _ _ _=>AL)))) AL (Ba _))))) (Ah (BB CQ)) Bz)
 (Ab (Bs (Ee (GH (CG (GX hu) (bF rfl A6 K9 hu (AG 0)) (AG 1) (Ba _)) (GH (Cq (A0 (Fn.of LL hr) (Ak (AG 0)) (Ar:=DY))) (JW (CG EH (A0 (Fn.of SI hr) (Ak (AG 0)) (Ar:=DY)) AL (Ba _)))))) (Ah (BB CQ)) Bz)
 (Ab (Ed rfl PassesOwn.never (Ec Bb (Ak (AG 1))) (Bf 2 Qt.nd) (Ah (Ed rfl PassesOwn.never (Ec Bb (Ak (AG 2))) (Bf 3 Qt.nd) (Ah (Bs (CG Ox (Ct (Bn (AG 2) (AG 3)) (AG 1)) (EL (Ap AL (Bn (AG 1) AL))) (by with_unfolding_all rfl)) (Ah (Bs (Cq (A0 (Fn.of LM hr) (DL (AV (AG 0) (Bn (AG 2) AL)) (DL (AV (AG 0) (AG 2)) (DL (AV (AG 0) (Bn (AG 3) AL)) (DL (AV (AG 0) (AG 3)) IM)))) (Ar:=Zr))) (Ah (BB CQ)) Bz)) Bz)))))
 (Ah (BB CQ))))))
abbrev U7:Stmt:=top 40
theorem JY:FS ["script","k","room","j","cell","at","x","y","tried"] ["script","k","room"] U7:=B2 (by decide +kernel) ⟨[_,_,_],rfl,rfl⟩
theorem ox(F:FM K mg "_law_pushed" U7)(Di:Ae P w K mg base "_law_cell" 1 2 Ck)(SK:Ae P w K mg base "_law_good" 4 1 Ky)(Bb:mg "range" = none)(A6:mg "len" = none)(Fu:mg "abs" = none)(E1:mg "max" = none):Ae P w K mg base "_law_pushed" 5 3 OX:=by
 refine gG F JY λhr hu Bu Bv BQ=>?_;exact(Ab (Ed rfl PassesOwn.never (Ec Bb (Ak (Ct (G0 (A0 (Fn.of Di hr) (Ap (AG 0) (Bj (AG 1) AL)) (Ar:=ln2)) AL) AL))) (Bf 3 JY.nd) (Ab (BR 4 JY.nd (A0 (Fn.of Di hr) (Ap (AG 0) (Bj (Bj (AG 1) AL) (AG 3))) (Ar:=ln2)))
 (Ab (BR 5 JY.nd (Ct (AG 4) (Cc A6 (Ak (AG 2)))))
 (Ab (BR 6 JY.nd (Bn (Bj (AV (AV (AG 2) (AG 5)) AL) (Ct (G0 (AG 4) AL) AL)) AL))
 (Ab (BR 7 JY.nd (Bn (Bj (AV (AV (AG 2) (AG 5)) AL) (Ct (G0 (AG 4) AL) AL)) AL))
 (Ab (BR 8 JY.nd (Bj (Bj (N1 (AG 2) N3 (N4 (AG 5))) (EL (Ak (CD (Ap (AG 6) (AG 7)))))) (N1 (AG 2) (N4 (Bj (AG 5) AL)) N3)))
 (Ah (Bs (Ee (JU (CG Dd (C9 (LQ BQ) L4 E1 LF (Ap (C9 LP L3 Fu LD (Ak (AG 6))) (C9 LP L3 Fu LD (Ak (AG 7))))) AL (Ba _)) (JV (Cq (A0 (Fn.of SK hr) (Ak (AG 8)) (Ar:=DY)))))) (Ah (BR 2 JY.nd (AG 8))) Bz))))))))
 (Ah (BB (AG 2))))
abbrev JX:Stmt:=top 41
theorem Fg:FS ["script","k","most","cell","room","slant","turn_v","first","x","y"] ["script","k","most"] JX:=B2 (by decide +kernel) ⟨[_,_,_],rfl,rfl⟩
theorem oy(F:FM K mg "_law_room" JX)(Di:Ae P w K mg base "_law_cell" 1 2 Ck)(SQ:Ae P w K mg base "_law_plain_room" 3 3 OW)(SW:Ae P w K mg base "_law_winding" 2 2 MS)(SS:Ae P w K mg base "_law_pushed" 5 3 OX)(A6:mg "len" = none):Ae P w K mg base "_law_room" 6 3 OY:=by
 refine gG F Fg λhr hu Bu Bv BQ=>?_;exact(Ab (BR 3 Fg.nd (A0 (Fn.of Di hr) (Ap (AG 0) (AG 1)) (Ar:=ln2)))
 (Ab (BR 4 Fg.nd (A0 (Fn.of SQ hr) (Cp (AG 0) (AG 1) (Bj AL (Ct (AG 3) (Bn (AG 2) AL)))) (Ar:=C8)))
 (Ab (Bs (Ee (JU (CG (GW hu) (AG 2) AL (Ba _)) (JV (CG (GW hu) (Ct (G0 (A0 (Fn.of Di hr) (Ap (AG 0) (Bj (AG 1) AL)) (Ar:=ln2)) AL) AL) AL (Ba _))))) (Ah (BR 4 Fg.nd (A0 (Fn.of SW hr) (Ap (AG 0) (AG 1)) (Ar:=ln2)))) Bz)
 (Ab (BR 5 Fg.nd (Bn (Ct (G0 (A0 (Fn.of Di hr) (Ap (AG 0) (Bj (AG 1) AL)) (Ar:=ln2)) AL) AL) AL))
 (Ab (BR 4 Fg.nd (A0 (Fn.of SS hr) (Cp (AG 0) (AG 1) (Dy rfl (DQ (Nb:=["x","y","slant"]) (own:=2) (cap:=[5]) (by exact(show DE (Bg JX).names ["script","k","most","cell","room","slant","turn_v","first","x","y"] _ ["x","y","slant"] 2 [5]=true by decide +kernel))) (by decide) (KD (E5 Cf (E5 Cf KG))) (Dz (AG 4)) (λ_ _ _ _ _=>(JS rfl (EM (Bf 0 (show(["x","y","slant"]:List Str).Nodup by decide +kernel)) (EM (Bf 1 (show(["x","y","slant"]:List Str).Nodup by decide +kernel)) JT)))) (λ_ _ _ _ _=>EC) (λ_ _ _ _ _=>(CD (Ap (Bj (AG 0) (Fd (AG 2) (AG 1))) (AG 1)))))) (Ar:=C8)))
 (Ab (BR 6 Fg.nd (Ct (A0 (Fn.of Di hr) (Ap (AG 0) (Bj (AG 1) AL)) (Ar:=ln2)) AL))
 (Ab (Bs (CG (GW hu) (Ct (AG 6) AL) AL (Ba _)) (Ah (BR 4 Fg.nd (QW (Dy rfl (DQ (Nb:=["x","y"]) (own:=2) (cap:=[]) (by exact(show DE (Bg JX).names ["script","k","most","cell","room","slant","turn_v","first","x","y"] _ ["x","y"] 2 []=true by decide +kernel))) (by decide) (KD (E5 Cf (E5 Cf KG))) (Dz (AG 4)) (λ_ _ _ _ _=>(JS rfl (EM (Bf 0 (show(["x","y"]:List Str).Nodup by decide +kernel)) (EM (Bf 1 (show(["x","y"]:List Str).Nodup by decide +kernel)) JT)))) (λ_ _ _ _ _=>EC) (λ_ _ _ _ _=>(CD (Ap (Bn AL (AG 0)) (AG 1)))))))) Bz)
 (Ab (Bs (CG (GW hu) (Ct (G0 (AG 6) AL) AL) AL (Ba _)) (Ah (BR 4 Fg.nd (QW (Dy rfl (DQ (Nb:=["x","y"]) (own:=2) (cap:=[]) (by exact(show DE (Bg JX).names ["script","k","most","cell","room","slant","turn_v","first","x","y"] _ ["x","y"] 2 []=true by decide +kernel))) (by decide) (KD (E5 Cf (E5 Cf KG))) (Dz (AG 4)) (λ_ _ _ _ _=>(JS rfl (EM (Bf 0 (show(["x","y"]:List Str).Nodup by decide +kernel)) (EM (Bf 1 (show(["x","y"]:List Str).Nodup by decide +kernel)) JT)))) (λ_ _ _ _ _=>EC) (λ_ _ _ _ _=>(CD (Ap (AG 0) (Bn AL (AG 1))))))))) Bz)
 (Ab (Bs (CG (GW hu) (G0 (AG 6) AL) AL (Ba _)) (Ah (BR 4 Fg.nd (QW (Dy rfl (DQ (Nb:=["x","y"]) (own:=2) (cap:=[]) (by exact(show DE (Bg JX).names ["script","k","most","cell","room","slant","turn_v","first","x","y"] _ ["x","y"] 2 []=true by decide +kernel))) (by decide) (KD (E5 Cf (E5 Cf KG))) (Dz (AG 4)) (λ_ _ _ _ _=>(JS rfl (EM (Bf 0 (show(["x","y"]:List Str).Nodup by decide +kernel)) (EM (Bf 1 (show(["x","y"]:List Str).Nodup by decide +kernel)) JT)))) (λ_ _ _ _ _=>EC) (λ_ _ _ _ _=>(CD (Ap (AG 1) (AG 0)))))))) Bz)
 (Ab (BR 7 Fg.nd (Ct (A0 (Fn.of Di hr) (Ap (AG 0) (Bj (AG 1) AL)) (Ar:=ln2)) (Cc A6 (Ak (AG 4)))))
 (Ab (BR 8 Fg.nd (Bn (Ct (G0 (A0 (Fn.of Di hr) (Ap (AG 0) (Bj (AG 1) AL)) (Ar:=ln2)) AL) AL) AL))
 (Ab (BR 9 Fg.nd (Bn (Ct (A0 (Fn.of Di hr) (Ap (AG 0) (Bj (AG 1) AL)) (Ar:=ln2)) AL) AL))
 (Ah (BB (Dy rfl (DQ (Nb:=["a","b","x","y"]) (own:=2) (cap:=[8,9]) (by exact(show DE (Bg JX).names ["script","k","most","cell","room","slant","turn_v","first","x","y"] _ ["a","b","x","y"] 2 [8,9]=true by decide +kernel))) (by decide) (KD (E5 Cf (E5 Cf KG))) (Dz (Bj (N1 (AG 4) (N4 (AG 7)) N3) (N1 (AG 4) N3 (N4 (AG 7))))) (λ_ _ _ _ _=>(JS rfl (EM (Bf 0 (show(["a","b","x","y"]:List Str).Nodup by decide +kernel)) (EM (Bf 1 (show(["a","b","x","y"]:List Str).Nodup by decide +kernel)) JT)))) (λ_ _ _ _ _=>EC) (λ_ _ _ _ _=>(CD (Ap (Bj (AG 0) (AG 2)) (Bj (AG 1) (AG 3))))))))))))))))))))
abbrev Qi:Stmt:=top 17
theorem sH:FS ["corners"] ["corners"] Qi:=B2 (by decide +kernel) ⟨[_],rfl,rfl⟩
theorem oO(F:FM K mg "all_near" Qi)(Fu:mg "abs" = none)(FO:mg "all" = none)(PN:∃t,mg "FARTHEST" = some (.int 100 t)):Ae P w K mg base "all_near" 1 1 MP:=by
 refine gG F sH λhr hu Bu Bv BQ=>?_;exact(Ah (BB (C9 (Mj BQ) Nt FO Mh (Ak (Dy rfl (DQ (Nb:=["corner"]) (own:=1) (cap:=[]) (by exact(show DE (Bg Qi).names ["corners"] _ ["corner"] 1 []=true by decide +kernel))) (by decide) Cf (Dz (AG 0)) (λ_ _ _ _ _=>(Bf 0 (show(["corner"]:List Str).Nodup by decide +kernel))) (λ_ _ _ _ _=>EC) (λ_ _ _ _ _=>(Gz (DU EH (C9 LP L3 Fu LD (Ak (AV (AG 0) AL))) (QV PN) (Ba _)) (Eb (DU EH (C9 LP L3 Fu LD (Ak (AV (AG 0) AL))) (QV PN) (Ba _))))))))))
abbrev VE:Stmt:=top 4
theorem sZ:FS ["one","other","third"] ["one","other","third"] VE:=B2 (by decide +kernel) ⟨[_,_,_],rfl,rfl⟩
theorem pG(F:FM K mg "turn" VE)  : Ae P w K mg base "turn" 1 3 D3:=by
 refine gG F sZ λhr hu Bu Bv BQ=>?_;exact(Ah (BB (Bn (Fd (Bn (AV (AG 1) AL) (AV (AG 0) AL)) (Bn (AV (AG 2) AL) (AV (AG 0) AL))) (Fd (Bn (AV (AG 1) AL) (AV (AG 0) AL)) (Bn (AV (AG 2) AL) (AV (AG 0) AL))))))
abbrev Qh:Stmt:=top 18
theorem sG:FS ["corners"] ["corners"] Qh:=B2 (by decide +kernel) ⟨[_],rfl,rfl⟩
theorem oN(F:FM K mg "all_bend" Qh)(ET:Ae P w K mg base "turn" 1 3 D3)(Bb:mg "range" = none)(A6:mg "len" = none)(FO:mg "all" = none):Ae P w K mg base "all_bend" 2 1 OS:=by
 refine gG F sG λhr hu Bu Bv BQ=>?_;exact(Ah (BB (C9 (Mj BQ) Nt FO Mh (Ak (Dy rfl (DQ (Nb:=["k","corners"]) (own:=1) (cap:=[0]) (by exact(show DE (Bg Qh).names ["corners"] _ ["k","corners"] 1 [0]=true by decide +kernel))) (by decide) Cf (Ec Bb (Ak (Cc A6 (Ak (AG 0))))) (λ_ _ _ _ _=>(Bf 0 (show(["k","corners"]:List Str).Nodup by decide +kernel))) (λ_ _ _ _ _=>EC) (λ_ _ _ _ _=>(DU (GX hu) (A0 (Fn.of ET hr) (Cp (AV (AG 1) (Bn (AG 0) AL)) (AV (AG 1) (Bn (AG 0) AL)) (AV (AG 1) (AG 0))) (Ar:=C8)) AL (Ba _))))))))
abbrev Qs:Stmt:=top 20
theorem se:FS ["corners"] ["corners"] Qs:=B2 (by decide +kernel) ⟨[_],rfl,rfl⟩
theorem pI(F:FM K mg "walls_of" Qs)(Bb:mg "range" = none)(A6:mg "len" = none):Ae P w K mg base "walls_of" 1 1 FJ:=by
 refine gG F se λhr hu Bu Bv BQ=>?_;exact(Ah (BB (Dy rfl (DQ (Nb:=["k","corners"]) (own:=1) (cap:=[0]) (by exact(show DE (Bg Qs).names ["corners"] _ ["k","corners"] 1 [0]=true by decide +kernel))) (by decide) Cf (Ec Bb (Ak (Cc A6 (Ak (AG 0))))) (λ_ _ _ _ _=>(Bf 0 (show(["k","corners"]:List Str).Nodup by decide +kernel))) (λ_ _ _ _ _=>EC) (λ_ _ _ _ _=>(CD (Ap (AV (AG 1) (AG 0)) (AV (AG 1) (Ct (Bj (AG 0) AL) (Cc A6 (Ak (AG 1)))))))))))
abbrev Us:Stmt:=top 19
theorem sI:FS ["count","one","other"] ["count","one","other"] Us:=B2 (by decide +kernel) ⟨[_,_,_],rfl,rfl⟩
theorem oP(F:FM K mg "are_neighbours" Us)  : Ae P w K mg base "are_neighbours" 1 3 GN:=by
 refine gG F sI λhr hu Bu Bv BQ=>?_;exact(Ah (BB (DU Wq (Ct (Bn (AG 2) (AG 1)) (AG 0)) (CD (Ap AL (Bn (AG 0) AL))) (by with_unfolding_all rfl))))
abbrev VC:Stmt:=top 6
theorem VO:FS ["way","other","start_side","end_side"] ["way","other"] VC:=B2 (by decide +kernel) ⟨[_,_],rfl,rfl⟩
theorem o9(F:FM K mg "parts" VC)(ET:Ae P w K mg base "turn" 1 3 D3):Ae P w K mg base "parts" 2 2 K0:=by
 refine gG F VO λhr hu Bu Bv BQ=>?_;exact(Ab (BR 2 VO.nd (A0 (Fn.of ET hr) (Cp (AV (AG 0) AL) (AV (AG 0) AL) (AV (AG 1) AL)) (Ar:=C8)))
 (Ab (BR 3 VO.nd (A0 (Fn.of ET hr) (Cp (AV (AG 0) AL) (AV (AG 0) AL) (AV (AG 1) AL)) (Ar:=C8)))
 (Ah (BB (Ki (Gz (DU Dd (AG 2) AL (Ba _)) (Eb (DU D5 (AG 3) AL (Ba _)))) (Eb (Gz (DU D5 (AG 2) AL (Ba _)) (Eb (DU Dd (AG 3) AL (Ba _))))))))))
abbrev VA:Stmt:=top 5
theorem OA:FS ["point","way","start","end","in_width","in_height"] ["point","way"] VA:=B2 (by decide +kernel) ⟨[_,_],rfl,rfl⟩
theorem o5(F:FM K mg "lies_on" VA)(ET:Ae P w K mg base "turn" 1 3 D3)(Ie:mg "min" = none)(E1:mg "max" = none):Ae P w K mg base "lies_on" 2 2 Fo:=by
 refine gG F OA λhr hu Bu Bv BQ=>?_;exact(Ab (BR 2 OA.nd (AV (AG 1) AL))
 (Ab (BR 3 OA.nd (AV (AG 1) AL))
 (Ab (Bs (CG (GX hu) (A0 (Fn.of ET hr) (Cp (AG 2) (AG 3) (AG 0)) (Ar:=C8)) AL (Ba _)) (Ah (BB CQ)) Bz)
 (Ab (BR 4 OA.nd (QT EH EH (C9 (Ou BQ) QM Ie Om (Ap (AV (AG 2) AL) (AV (AG 3) AL))) (AV (AG 0) AL) (C9 (LQ BQ) L4 E1 LF (Ap (AV (AG 2) AL) (AV (AG 3) AL)))))
 (Ab (BR 5 OA.nd (QT EH EH (C9 (Ou BQ) QM Ie Om (Ap (AV (AG 2) AL) (AV (AG 3) AL))) (AV (AG 0) AL) (C9 (LQ BQ) L4 E1 LF (Ap (AV (AG 2) AL) (AV (AG 3) AL)))))
 (Ah (BB (Gz (AG 4) (Eb (AG 5))))))))))
abbrev VB:Stmt:=top 7
theorem VM:FS ["way","other","touches_way","touches_other"] ["way","other"] VB:=B2 (by decide +kernel) ⟨[_,_],rfl,rfl⟩
theorem o7(F:FM K mg "meet" VB)(Ot:Ae P w K mg base "parts" 2 2 K0)(Hs:Ae P w K mg base "lies_on" 2 2 Fo):Ae P w K mg base "meet" 3 2 GP:=by
 refine gG F VM λhr hu Bu Bv BQ=>?_;exact(Ab (Bs (Ee (JU (Cq (A0 (Fn.of Ot hr) (Ap (AG 0) (AG 1)) (Ar:=ln2))) (JV (Cq (A0 (Fn.of Ot hr) (Ap (AG 1) (AG 0)) (Ar:=ln2)))))) (Ah (BB CQ)) Bz)
 (Ab (BR 2 VM.nd (Ki (A0 (Fn.of Hs hr) (Ap (AV (AG 1) AL) (AG 0)) (Ar:=ln2)) (Eb (A0 (Fn.of Hs hr) (Ap (AV (AG 1) AL) (AG 0)) (Ar:=ln2)))))
 (Ab (BR 3 VM.nd (Ki (A0 (Fn.of Hs hr) (Ap (AV (AG 0) AL) (AG 1)) (Ar:=ln2)) (Eb (A0 (Fn.of Hs hr) (Ap (AV (AG 0) AL) (AG 1)) (Ar:=ln2)))))
 (Ah (BB (Ki (AG 2) (Eb (AG 3))))))))
abbrev VF:Stmt:=top 21
theorem Qv:FS ["corners","walls","k","m"] ["corners"] VF:=B2 (by decide +kernel) ⟨[_],rfl,rfl⟩
theorem pH(F:FM K mg "walls_keep_apart" VF)(Fv:Ae P w K mg base "walls_of" 1 1 FJ)(LH:Ae P w K mg base "are_neighbours" 1 3 GN)(LO:Ae P w K mg base "meet" 3 2 GP)(Bb:mg "range" = none)(A6:mg "len" = none):Ae P w K mg base "walls_keep_apart" 4 1 Oc:=by
 refine gG F Qv λhr hu Bu Bv BQ=>?_;exact(Ab (BR 1 Qv.nd (A0 (Fn.of Fv hr) (Ak (AG 0)) (Ar:=DY)))
 (Ab (Ed rfl PassesOwn.never (Ec Bb (Ak (Cc A6 (Ak (AG 1))))) (Bf 2 Qv.nd) (Ah (Ed rfl PassesOwn.never (QY Bb (Ap (Bj (AG 2) AL) (Cc A6 (Ak (AG 1))))) (Bf 3 Qv.nd) (Ah (Bs (Ee (JU (Et (Cq (A0 (Fn.of LH hr) (Cp (Cc A6 (Ak (AG 1))) (AG 2) (AG 3)) (Ar:=C8)))) (JV (Cq (A0 (Fn.of LO hr) (Ap (AV (AG 1) (AG 2)) (AV (AG 1) (AG 3))) (Ar:=ln2)))))) (Ah (BB CQ)) Bz)))))
 (Ah (BB CQ))))
abbrev Qk:Stmt:=top 22
theorem sO:FS ["corners"] ["corners"] Qk:=B2 (by decide +kernel) ⟨[_],rfl,rfl⟩
theorem oV(F:FM K mg "doubled_area" Qk)(Fv:Ae P w K mg base "walls_of" 1 1 FJ)(ET:Ae P w K mg base "turn" 1 3 D3)(Ro:mg "sum" = none)(TH:∃a,mg "ORIGIN" = some (.ref a)/\∀G,Rep K G (.tup [(.int 0),(.int 0)]) (.ref a)):Ae P w K mg base "doubled_area" 2 1 OT:=by
 refine gG F sO λhr hu Bu Bv BQ=>?_;exact(Ah (BB (C9 (gR BQ) qA Ro f7 (Ak (Dy rfl (DQ (Nb:=["wall"]) (own:=1) (cap:=[]) (by exact(show DE (Bg Qk).names ["corners"] _ ["wall"] 1 []=true by decide +kernel))) (by decide) Cf (Dz (A0 (Fn.of Fv hr) (Ak (AG 0)) (Ar:=DY))) (λ_ _ _ _ _=>(Bf 0 (show(["wall"]:List Str).Nodup by decide +kernel))) (λ_ _ _ _ _=>EC) (λ_ _ _ _ _=>(A0 (Fn.of ET hr) (Cp (rO TH) (AV (AG 0) AL) (AV (AG 0) AL)) (Ar:=C8))))))))
abbrev Ux:Stmt:=top 14
theorem sT:FS ["room"] ["room"] Ux:=B2 (by decide +kernel) ⟨[_],rfl,rfl⟩
theorem oY(F:FM K mg "is_room" Ux)(R8:Ae P w K mg base "all_near" 1 1 MP)(R7:Ae P w K mg base "all_bend" 2 1 OS)(Se:Ae P w K mg base "walls_keep_apart" 4 1 Oc)(SE:Ae P w K mg base "doubled_area" 2 1 OT)(A6:mg "len" = none)(K9:mg "set" = none)(TC:∃t,mg "FEWEST_CORNERS" = some (.int 3 t))(TF:∃t,mg "MOST_CORNERS" = some (.int 12 t)):Ae P w K mg base "is_room" 5 1 OU:=by
 refine gG F sT λhr hu Bu Bv BQ=>?_;exact(Ab (Bs (Et (bL EH EH (QV TC) (Cc A6 (Ak (AG 0))) (QV TF))) (Ah (BB CQ)) Bz)
 (Ab (Bs (CG (GX hu) (bF rfl A6 K9 hu (AG 0)) (Cc A6 (Ak (AG 0))) (Ba _)) (Ah (BB CQ)) Bz)
 (Ah (BB (Gz (A0 (Fn.of R8 hr) (Ak (AG 0)) (Ar:=DY)) (Gz (A0 (Fn.of R7 hr) (Ak (AG 0)) (Ar:=DY)) (Gz (A0 (Fn.of Se hr) (Ak (AG 0)) (Ar:=DY)) (Eb (DU D5 (A0 (Fn.of SE hr) (Ak (AG 0)) (Ar:=DY)) AL (Ba _))))))))))
abbrev Ut:Stmt:=top 16
theorem sJ:FS ["room"] ["room"] Ut:=B2 (by decide +kernel) ⟨[_],rfl,rfl⟩
theorem oQ(F:FM K mg "check_room" Ut)(SH:Ae P w K mg base "is_room" 5 1 OU):Ae P w K mg base "check_room" 6 1 Kv:=by
 refine gG F sJ λhr hu Bu Bv BQ=>?_;exact(Ah (Bs (Et (Cq (A0 (Fn.of SH hr) (Ak (AG 0)) (Ar:=DY)))) (Ah rV) Bz))
abbrev VD:Stmt:=top 8
theorem Qu:FS ["way","point","start_above","end_above","side"] ["way","point"] VD:=B2 (by decide +kernel) ⟨[_,_],rfl,rfl⟩
theorem pC(F:FM K mg "passes_right_of" VD)(ET:Ae P w K mg base "turn" 1 3 D3):Ae P w K mg base "passes_right_of" 2 2 MV:=by
 refine gG F Qu λhr hu Bu Bv BQ=>?_;exact(Ab (BR 2 Qu.nd (DU D5 (AV (AV (AG 0) AL) AL) (AV (AG 1) AL) (Ba _)))
 (Ab (BR 3 Qu.nd (DU D5 (AV (AV (AG 0) AL) AL) (AV (AG 1) AL) (Ba _)))
 (Ab (Bs (CG (GW hu) (AG 2) (AG 3) (Ba _)) (Ah (BB CQ)) Bz)
 (Ab (BR 4 Qu.nd (A0 (Fn.of ET hr) (Cp (AV (AG 0) AL) (AV (AG 0) AL) (AG 1)) (Ar:=C8)))
 (Ah (BB (bE (Cq (AG 3)) (DU D5 (AG 4) AL (Ba _)) (DU Dd (AG 4) AL (Ba _)))))))))
abbrev N8:Stmt:=top 23
theorem cC:FS ["walls","point","passed"] ["walls","point"] N8:=B2 (by decide +kernel) ⟨[_,_],rfl,rfl⟩
theorem pD(F:FM K mg "place_within" N8)(Hs:Ae P w K mg base "lies_on" 2 2 Fo)(Sa:Ae P w K mg base "passes_right_of" 2 2 MV)(Hq:mg "any" = none)(A6:mg "len" = none):Ae P w K mg base "place_within" 3 2 Oa:=by
 refine gG F cC λhr hu Bu Bv BQ=>?_;exact(Ab (Bs (Cq (C9 (Sf BQ) UU Hq R4 (Ak (Dy rfl (DQ (Nb:=["wall","point"]) (own:=1) (cap:=[1]) (by exact(show DE (Bg N8).names ["walls","point","passed"] _ ["wall","point"] 1 [1]=true by decide +kernel))) (by decide) Cf (Dz (AG 0)) (λ_ _ _ _ _=>(Bf 0 (show(["wall","point"]:List Str).Nodup by decide +kernel))) (λ_ _ _ _ _=>EC) (λ_ _ _ _ _=>(A0 (Fn.of Hs hr) (Ap (AG 1) (AG 0)) (Ar:=ln2))))))) (Ah (BB QX)) Bz)
 (Ab (QZ 2 cC.nd rfl (DQ (Nb:=["wall","point"]) (own:=1) (cap:=[1]) (by exact(show DE (Bg N8).names ["walls","point","passed"] _ ["wall","point"] 1 [1]=true by decide +kernel))) (by decide) Cf (Dz (AG 0)) (λ_ _ _ _ _=>(Bf 0 (show(["wall","point"]:List Str).Nodup by decide +kernel))) (λ_ _ _ _ _=>(N2 (Cq (A0 (Fn.of Sa hr) (Ap (AG 0) (AG 1)) (Ar:=ln2))))) (λ_ _ _ _ _=>(AG 0)))
 (Ah (BB (bE (CG (GW hu) (Ct (Cc A6 (Ak (AG 2))) AL) AL (Ba _)) QX QX)))))
abbrev Qq:Stmt:=top 24
theorem VN:FS ["corners","way","doubled","middle"] ["corners","way"] Qq:=B2 (by decide +kernel) ⟨[_,_],rfl,rfl⟩
theorem o8(F:FM K mg "middle_is_inside" Qq)(Fv:Ae P w K mg base "walls_of" 1 1 FJ)(Sb:Ae P w K mg base "place_within" 3 2 Oa):Ae P w K mg base "middle_is_inside" 4 2 OZ:=by
 refine gG F VN λhr hu Bu Bv BQ=>?_;exact(Ab (QZ 2 VN.nd rfl (DQ (Nb:=["corner"]) (own:=1) (cap:=[]) (by exact(show DE (Bg Qq).names ["corners","way","doubled","middle"] _ ["corner"] 1 []=true by decide +kernel))) (by decide) Cf (Dz (AG 0)) (λ_ _ _ _ _=>(Bf 0 (show(["corner"]:List Str).Nodup by decide +kernel))) (λ_ _ _ _ _=>EC) (λ_ _ _ _ _=>(CD (Ap (Fd AL (AV (AG 0) AL)) (Fd AL (AV (AG 0) AL))))))
 (Ab (BR 3 VN.nd (CD (Ap (Bj (AV (AV (AG 1) AL) AL) (AV (AV (AG 1) AL) AL)) (Bj (AV (AV (AG 1) AL) AL) (AV (AV (AG 1) AL) AL)))))
 (Ah (BB (DU (GW hu) (A0 (Fn.of Sb hr) (Ap (A0 (Fn.of Fv hr) (Ak (AG 2)) (Ar:=DY)) (AG 3)) (Ar:=ln2)) QX (Ba _))))))
abbrev N7:Stmt:=top 15
theorem VH:FS ["room","one","other","way","far_walls"] ["room","one","other"] N7:=B2 (by decide +kernel) ⟨[_,_,_],rfl,rfl⟩
theorem oW(F:FM K mg "has_line" N7)(LH:Ae P w K mg base "are_neighbours" 1 3 GN)(Fv:Ae P w K mg base "walls_of" 1 1 FJ)(LO:Ae P w K mg base "meet" 3 2 GP)(SY:Ae P w K mg base "middle_is_inside" 4 2 OZ)(A6:mg "len" = none)(Hq:mg "any" = none):Ae P w K mg base "has_line" 5 3 HD:=by
 refine gG F VH λhr hu Bu Bv BQ=>?_;exact(Ab (Bs (Ee (GH (Et (bN EH Dd Dd AL (AG 1) (AG 2) (Cc A6 (Ak (AG 0))))) (JW (Cq (A0 (Fn.of LH hr) (Cp (Cc A6 (Ak (AG 0))) (AG 1) (AG 2)) (Ar:=C8)))))) (Ah (BB CQ)) Bz)
 (Ab (BR 3 VH.nd (CD (Ap (AV (AG 0) (AG 1)) (AV (AG 0) (AG 2)))))
 (Ab (QZ 4 VH.nd rfl (DQ (Nb:=["wall","way"]) (own:=1) (cap:=[3]) (by exact(show DE (Bg N7).names ["room","one","other","way","far_walls"] _ ["wall","way"] 1 [3]=true by decide +kernel))) (by decide) Cf (Dz (A0 (Fn.of Fv hr) (Ak (AG 0)) (Ar:=DY))) (λ_ _ _ _ _=>(Bf 0 (show(["wall","way"]:List Str).Nodup by decide +kernel))) (λ_ _ _ _ _=>(N2 (Ee (JU (CG (Wr Bv) (AV (AG 1) AL) (AG 0) (by with_unfolding_all rfl)) (JV (CG (Wr Bv) (AV (AG 1) AL) (AG 0) (by with_unfolding_all rfl))))))) (λ_ _ _ _ _=>(AG 0)))
 (Ab (Bs (Cq (C9 (Sf BQ) UU Hq R4 (Ak (Dy rfl (DQ (Nb:=["wall","way"]) (own:=1) (cap:=[3]) (by exact(show DE (Bg N7).names ["room","one","other","way","far_walls"] _ ["wall","way"] 1 [3]=true by decide +kernel))) (by decide) Cf (Dz (AG 4)) (λ_ _ _ _ _=>(Bf 0 (show(["wall","way"]:List Str).Nodup by decide +kernel))) (λ_ _ _ _ _=>EC) (λ_ _ _ _ _=>(A0 (Fn.of LO hr) (Ap (AG 1) (AG 0)) (Ar:=ln2))))))) (Ah (BB CQ)) Bz)
 (Ah (BB (A0 (Fn.of SY hr) (Ap (AG 0) (AG 3)) (Ar:=ln2))))))))
abbrev Qp:Stmt:=top 30
theorem VL:FS ["room","told","one"] ["room"] Qp:=B2 (by decide +kernel) ⟨[_],rfl,rfl⟩
theorem o6(F:FM K mg "lines_of" Qp)(LK:Ae P w K mg base "has_line" 5 3 HD)(Bb:mg "range" = none)(A6:mg "len" = none):Ae P w K mg base "lines_of" 6 1 MU:=by
 refine gG F VL λhr hu Bu Bv BQ=>?_;exact(Ab (Kj 1 VL.nd (EL IM))
 (Ab (Ed rfl PassesOwn.never (Ec Bb (Ak (Cc A6 (Ak (AG 0))))) (Bf 2 VL.nd) (Ah (rT 1 (Ak (Dy rfl (DQ (Nb:=["other","room","one"]) (own:=1) (cap:=[0,2]) (by exact(show DE (Bg Qp).names ["room","told","one"] _ ["other","room","one"] 1 [0,2]=true by decide +kernel))) (by decide) Cf (QY Bb (Ap (Bj (AG 2) AL) (Cc A6 (Ak (AG 0))))) (λ_ _ _ _ _=>(Bf 0 (show(["other","room","one"]:List Str).Nodup by decide +kernel))) (λ_ _ _ _ _=>(N2 (Cq (A0 (Fn.of LK hr) (Cp (AG 1) (AG 2) (AG 0)) (Ar:=C8))))) (λ_ _ _ _ _=>(CD (Ap (AG 2) (AG 0)))))))))
 (Ah (bK 1))))
abbrev Uu:Stmt:=top 31
theorem sL:FS ["one","other"] ["one","other"] Uu:=B2 (by decide +kernel) ⟨[_,_],rfl,rfl⟩
theorem oR(F:FM K mg "cross" Uu)  : Ae P w K mg base "cross" 1 2 MQ:=by
 refine gG F sL λhr hu Bu Bv BQ=>?_;exact(Ah (BB (Ki (QU Dd Dd Dd (AV (AG 0) AL) (AV (AG 1) AL) (AV (AG 0) AL) (AV (AG 1) AL)) (Eb (QU Dd Dd Dd (AV (AG 1) AL) (AV (AG 0) AL) (AV (AG 1) AL) (AV (AG 0) AL))))))
abbrev Qj:Stmt:=top 32
theorem sM:FS ["line","lines"] ["line","lines"] Qj:=B2 (by decide +kernel) ⟨[_,_],rfl,rfl⟩
theorem jb:∀ps r,HC ps=some r->r.flat=true:=S5 (Iy je)
theorem oS(F:FM K mg "crosses_none" Qj)(R9:Ae P w K mg base "cross" 1 2 MQ)(Hq:mg "any" = none):Ae P w K mg base "crosses_none" 2 2 HC:=by
 refine gG F sM λhr hu Bu Bv BQ=>?_;exact(Ah (BB (bH (C9 (Sf BQ) UU Hq R4 (Ak (Dy rfl (DQ (Nb:=["other","line"]) (own:=1) (cap:=[0]) (by exact(show DE (Bg Qj).names ["line","lines"] _ ["other","line"] 1 [0]=true by decide +kernel))) (by decide) Cf (Dz (AG 1)) (λ_ _ _ _ _=>(Bf 0 (show(["other","line"]:List Str).Nodup by decide +kernel))) (λ_ _ _ _ _=>EC) (λ_ _ _ _ _=>(A0 (Fn.of R9 hr) (Ap (AG 1) (AG 0)) (Ar:=ln2)))))))))
abbrev Uv:Stmt:=top 26
theorem VG:FS ["room","told","line"] ["room"] Uv:=B2 (by decide +kernel) ⟨[_],rfl,rfl⟩
theorem oT(F:FM K mg "cut" Uv)(LI:Ae P w K mg base "check_room" 6 1 Kv)(SX:Ae P w K mg base "lines_of" 6 1 MU)(LJ:Ae P w K mg base "crosses_none" 2 2 HC):Ae P w K mg base "cut" 7 1 Kw:=by
 refine gG F VG λhr hu Bu Bv BQ=>?_;exact(Ab (bJ (A0 (Fn.of LI hr) (Ak (AG 0)) (Ar:=DY)))
 (Ab (Kj 1 VG.nd (EL IM))
 (Ab (Ed rfl PassesOwn.never (Dz (A0 (Fn.of SX hr) (Ak (AG 0)) (Ar:=DY))) (Bf 2 VG.nd) (Ah (Bs (Cq (Ub (Fn.of LJ hr) jb (Ap (AG 2) (AG 1)) (Ar:=ln2))) (Ah (L9 1 (Ak (AG 2)))) Bz)))
 (Ah (bK 1)))))
abbrev U9:Stmt:=top 35
theorem sX:FS ["found"] ["found"] U9:=B2 (by decide +kernel) ⟨[_],rfl,rfl⟩
theorem o3(F:FM K mg "_law_whole" U9)(Ic:mg "isinstance" = none)(Rn:mg "int" = none)(Rl:mg "bool" = none):Ae P w K mg base "_law_whole" 1 1 Jo:=by
 refine gG F sX λhr hu Bu Bv BQ=>?_;exact(Ah (BB (Gz (rQ Ic Rn (AG 0)) (Eb (bH (rP Ic Rl (AG 0)))))))
abbrev U4:Stmt:=top 48
theorem b9:FS ["lines","line"] ["lines"] U4:=B2 (by decide +kernel) ⟨[_],rfl,rfl⟩
theorem jd:∀ps r,Jn ps=some r->r.flat=true:=S5 (Mz (Mx (Iy (J8 rfl)) My) (Mz (YG (Mx (Iy (J8 rfl)) My)) (Iy (J8 rfl))))
theorem ot(F:FM K mg "_law_lines_told" U4)(Oq:Ae P w K mg base "_law_whole" 1 1 Jo)(Ic:mg "isinstance" = none)(Jv:mg "list" = none)(Rp:mg "tuple" = none)(A6:mg "len" = none):Ae P w K mg base "_law_lines_told" 2 1 Jn:=by
 refine gG F b9 λhr hu Bu Bv BQ=>?_;exact(Ab (Bs (Et (Cq (rR Ic Jv (AG 0)))) (Ah (BB CQ)) Bz)
 (Ab (Ed rfl PassesOwn.never (Dz (AG 0)) (Bf 1 b9.nd) (Ah (Bs (Ee (GH (Et (Cq (rS Ic Rp (AG 1)))) (GH (CG (GX hu) (Cc A6 (Ak (AG 1))) AL (Ba _)) (GH (Et (Cq (A0 (Fn.of Oq hr) (Ak (AV (AG 1) AL)) (Ar:=DY)))) (JW (Et (Cq (A0 (Fn.of Oq hr) (Ak (AV (AG 1) AL)) (Ar:=DY))))))))) (Ah (BB CQ)) Bz)))
 (Ah (BB CQ))))
abbrev U3:Stmt:=top 46
theorem Kn:FS ["room","one","other","count","here","there","k","later","left","right"] ["room","one","other"] U3:=B2 (by decide +kernel) ⟨[_,_,_],rfl,rfl⟩
theorem oq(F:FM K mg "_law_line" U3)(LN:Ae P w K mg base "_law_on" 2 3 HE)(LM:Ae P w K mg base "_law_meet" 3 4 GO)(EG:Ae P w K mg base "_law_side" 1 3 Dn)(A6:mg "len" = none)(Bb:mg "range" = none):Ae P w K mg base "_law_line" 4 3 Kz:=by
 refine gG F Kn λhr hu Bu Bv BQ=>?_;exact(Ab (BR 3 Kn.nd (Cc A6 (Ak (AG 0))))
 (Ab (Bs (Ee (GH (Et (bN EH Dd Dd AL (AG 1) (AG 2) (AG 3))) (JW (CG Wq (Bn (AG 2) (AG 1)) (EL (Ap AL (Bn (AG 3) AL))) (by with_unfolding_all rfl))))) (Ah (BB CQ)) Bz)
 (Ab (Ud 4 5 rfl Kn.nd (Ap (AV (AG 0) (AG 1)) (AV (AG 0) (AG 2))))
 (Ab (Ed rfl PassesOwn.never (Ec Bb (Ak (AG 3))) (Bf 6 Kn.nd) (Ab (Bs (Ee (JU (CG Ox (AG 6) (EL (Ap (AG 1) (AG 2))) (by with_unfolding_all rfl)) (JV (Cq (A0 (Fn.of LN hr) (Cp (AG 4) (AG 5) (AV (AG 0) (AG 6))) (Ar:=C8)))))) (Ah (BB CQ)) Bz)
 (Ab (BR 7 Kn.nd (Ct (Bj (AG 6) AL) (AG 3)))
 (Ah (Bs (Ee (JU (CG Ox (AG 6) (EL (Ap (AG 1) (AG 2))) (by with_unfolding_all rfl)) (JV (CG Ox (AG 7) (EL (Ap (AG 1) (AG 2))) (by with_unfolding_all rfl))))) (Ah (Bs (Cq (A0 (Fn.of LM hr) (DL (AG 4) (DL (AG 5) (DL (AV (AG 0) (AG 6)) (DL (AV (AG 0) (AG 7)) IM)))) (Ar:=Zr))) (Ah (BB CQ)) Bz)) Bz)))))
 (Ab (BR 8 Kn.nd (DU D5 (A0 (Fn.of EG hr) (Cp (AG 4) (AV (AG 0) (Ct (Bj (AG 1) AL) (AG 3))) (AG 5)) (Ar:=C8)) AL (Ba _)))
 (Ab (BR 9 Kn.nd (DU D5 (A0 (Fn.of EG hr) (Cp (AV (AG 0) (Bn (AG 1) AL)) (AG 4) (AG 5)) (Ar:=C8)) AL (Ba _)))
 (Ab (Bs (CG D5 (A0 (Fn.of EG hr) (Cp (AV (AG 0) (Bn (AG 1) AL)) (AG 4) (AV (AG 0) (Ct (Bj (AG 1) AL) (AG 3)))) (Ar:=C8)) AL (Ba _)) (Ah (BB (Gz (AG 8) (Eb (AG 9))))) Bz)
 (Ah (BB (Ki (AG 8) (Eb (AG 9))))))))))))
abbrev U1:Stmt:=top 47
theorem sW:FS ["line","other"] ["line","other"] U1:=B2 (by decide +kernel) ⟨[_,_],rfl,rfl⟩
theorem og(F:FM K mg "_law_cross" U1)  : Ae P w K mg base "_law_cross" 1 2 Jk:=by
 refine gG F sW λhr hu Bu Bv BQ=>?_;exact(Ah (BB (Ki (QU Dd Dd Dd (AV (AG 0) AL) (AV (AG 1) AL) (AV (AG 0) AL) (AV (AG 1) AL)) (Eb (QU Dd Dd Dd (AV (AG 1) AL) (AV (AG 0) AL) (AV (AG 1) AL) (AV (AG 0) AL))))))
abbrev Qm:Stmt:=top 49
theorem b8:FS ["room","lines","k"] ["room","lines"] Qm:=B2 (by decide +kernel) ⟨[_,_],rfl,rfl⟩
theorem jc:∀ps r,Jm ps=some r->r.flat=true:=S5 (Mz (Mx (Iy (J8 rfl)) My) (Mz (YG (Mz (Mx (Iy (J8 rfl)) My) (Mx (Iy (J8 rfl)) My))) (Iy (J8 rfl))))
theorem oo(F:FM K mg "_law_is_cut" Qm)(SN:Ae P w K mg base "_law_line" 4 3 Kz)(SJ:Ae P w K mg base "_law_cross" 1 2 Jk)(A6:mg "len" = none)(Bb:mg "range" = none):Ae P w K mg base "_law_is_cut" 5 2 Jm:=by
 refine gG F b8 λhr hu Bu Bv BQ=>?_;exact(Ab (Bs (CG (GX hu) (Cc A6 (Ak (AG 1))) (Bn (Cc A6 (Ak (AG 0))) AL) (Ba _)) (Ah (BB CQ)) Bz)
 (Ab (Ed rfl PassesOwn.never (Ec Bb (Ak (Cc A6 (Ak (AG 1))))) (Bf 2 b8.nd) (Ab (Bs (Ee (GH (Et (Cq (A0 (Fn.of SN hr) (Cp (AG 0) (AV (AV (AG 1) (AG 2)) AL) (AV (AV (AG 1) (AG 2)) AL)) (Ar:=C8)))) (JW (Ee (JU (CG D5 (AG 2) AL (Ba _)) (JV (CG (gZ Bu) (AV (AG 1) (Bn (AG 2) AL)) (AV (AG 1) (AG 2)) (Ba _)))))))) (Ah (BB CQ)) Bz)
 (Ah (Bs (CG D5 (Cc A6 (Ak (Dy rfl (DQ (Nb:=["j","lines","k"]) (own:=1) (cap:=[1,2]) (by exact(show DE (Bg Qm).names ["room","lines","k"] _ ["j","lines","k"] 1 [1,2]=true by decide +kernel))) (by decide) Cf (Ec Bb (Ak (AG 2))) (λ_ _ _ _ _=>(Bf 0 (show(["j","lines","k"]:List Str).Nodup by decide +kernel))) (λ_ _ _ _ _=>(N2 (Cq (A0 (Fn.of SJ hr) (Ap (AV (AG 1) (AG 0)) (AV (AG 1) (AG 2))) (Ar:=ln2))))) (λ_ _ _ _ _=>(AG 0))))) AL (Ba _)) (Ah (BB CQ)) Bz))))
 (Ah (BB CQ))))
abbrev Qr:Stmt:=top 29
theorem sY:FS ["lines"] ["lines"] Qr:=B2 (by decide +kernel) ⟨[_],rfl,rfl⟩
theorem pE(F:FM K mg "rises" Qr)(Bb:mg "range" = none)(A6:mg "len" = none)(FO:mg "all" = none):Ae P w K mg base "rises" 1 1 MW:=by
 refine gG F sY λhr hu Bu Bv BQ=>?_;exact(Ah (BB (C9 (Mj BQ) Nt FO Mh (Ak (Dy rfl (DQ (Nb:=["k","lines"]) (own:=1) (cap:=[0]) (by exact(show DE (Bg Qr).names ["lines"] _ ["k","lines"] 1 [0]=true by decide +kernel))) (by decide) Cf (QY Bb (Ap AL (Cc A6 (Ak (AG 0))))) (λ_ _ _ _ _=>(Bf 0 (show(["k","lines"]:List Str).Nodup by decide +kernel))) (λ_ _ _ _ _=>EC) (λ_ _ _ _ _=>(DU (gd Bu) (AV (AG 1) (Bn (AG 0) AL)) (AV (AG 1) (AG 0)) (Ba _))))))))
abbrev N6:Stmt:=top 28
theorem sN:FS ["room","lines"] ["room","lines"] N6:=B2 (by decide +kernel) ⟨[_,_],rfl,rfl⟩
theorem oU(F:FM K mg "cuts_up" N6)(Sd:Ae P w K mg base "rises" 1 1 MW)(LK:Ae P w K mg base "has_line" 5 3 HD)(LJ:Ae P w K mg base "crosses_none" 2 2 HC)(A6:mg "len" = none)(FO:mg "all" = none)(Bb:mg "range" = none):Ae P w K mg base "cuts_up" 6 2 RK:=by
 refine gG F sN λhr hu Bu Bv BQ=>?_;exact(Ab (Bs (CG (GX hu) (Cc A6 (Ak (AG 1))) (Bn (Cc A6 (Ak (AG 0))) AL) (Ba _)) (Ah (BB CQ)) Bz)
 (Ab (Bs (Ee (GH (Et (Cq (A0 (Fn.of Sd hr) (Ak (AG 1)) (Ar:=DY)))) (JW (Et (Cq (C9 (Mj BQ) Nt FO Mh (Ak (Dy rfl (DQ (Nb:=["line","room"]) (own:=1) (cap:=[0]) (by exact(show DE (Bg N6).names ["room","lines"] _ ["line","room"] 1 [0]=true by decide +kernel))) (by decide) Cf (Dz (AG 1)) (λ_ _ _ _ _=>(Bf 0 (show(["line","room"]:List Str).Nodup by decide +kernel))) (λ_ _ _ _ _=>EC) (λ_ _ _ _ _=>(A0 (Fn.of LK hr) (Cp (AG 1) (AV (AG 0) AL) (AV (AG 0) AL)) (Ar:=C8))))))))))) (Ah (BB CQ)) Bz)
 (Ah (BB (C9 (Mj BQ) Nt FO Mh (Ak (Dy rfl (DQ (Nb:=["k","lines"]) (own:=1) (cap:=[1]) (by exact(show DE (Bg N6).names ["room","lines"] _ ["k","lines"] 1 [1]=true by decide +kernel))) (by decide) Cf (Ec Bb (Ak (Cc A6 (Ak (AG 1))))) (λ_ _ _ _ _=>(Bf 0 (show(["k","lines"]:List Str).Nodup by decide +kernel))) (λ_ _ _ _ _=>EC) (λ_ _ _ _ _=>(A0 (Fn.of LJ hr) (Ap (AV (AG 1) (AG 0)) (N1 (AG 1) N3 (N4 (AG 0)))) (Ar:=ln2))))))))))
abbrev Uw:Stmt:=top 27
theorem sS:FS ["room","lines"] ["room","lines"] Uw:=B2 (by decide +kernel) ⟨[_,_],rfl,rfl⟩
theorem oX(F:FM K mg "is_cut" Uw)(LI:Ae P w K mg base "check_room" 6 1 Kv)(SD:Ae P w K mg base "cuts_up" 6 2 RK):Ae P w K mg base "is_cut" 7 2 Kx:=by
 refine gG F sS λhr hu Bu Bv BQ=>?_;exact(Ab (bJ (A0 (Fn.of LI hr) (Ak (AG 0)) (Ar:=DY)))
 (Ah (BB (A0 (Fn.of SD hr) (Ap (AG 0) (AG 1)) (Ar:=ln2)))))
abbrev Uy:Stmt:=top 53
theorem MB:FS ["script","room","handed","lap","found"] ["script"] Uy:=B2 (by decide +kernel) ⟨[_],rfl,rfl⟩
theorem oZ{f:Addr}{fd:FuncData}(F:Fq K "law" "law" Uy f fd)(SU:Ae P w K mg base "_law_room" 6 3 OY)(SA:Ae P w K mg base "cut" 7 1 Kw)(SO:Ae P w K mg base "_law_lines_told" 2 1 Jn)(SM:Ae P w K mg base "_law_is_cut" 5 2 Jm)(SG:Ae P w K mg base "is_cut" 7 2 Kx)(Jv:mg "list" = none)(Bb:mg "range" = none):Dp P w K mg base Ez 8 f fd ["script"] (MD K 1 OV):=by
 refine gL F MB λhr hu Bu Bv BQ=>?_;exact(Ab (BR 1 MB.nd (A0 (Fn.of SU hr) (Cp (AG 0) AL AL) (Ar:=C8)))
 (Ab (BR 2 MB.nd (bI Wg aL Jv R5 (Ak (AG 1))))
 (Ab (Ed rfl PassesOwn.never (Ec Bb (Ak AL)) (Bf 3 MB.nd) (Ab (Kj 4 MB.nd (A0 (Fn.of SA hr) (Ak (AG 2)) (Ar:=DY)))
 (Ab (Bs (Ee (GH (Et (Cq (Ub (Fn.of SO hr) jd (Ak (AG 4)) (Ar:=DY)))) (GH (Et (Cq (Ub (Fn.of SM hr) jc (Ap (AG 1) (AG 4)) (Ar:=ln2)))) (JW (CG (GX hu) (AG 2) (AG 1) (Ba _)))))) (Ah (BB CQ)) Bz)
 (Ab (Bs (CG gc (A0 (Fn.of SG hr) (Ap (AG 2) (bI Wg aL Jv R5 (Ak (AG 4)))) (Ar:=ln2)) CQ (Ba _)) (Ah (BB CQ)) Bz)
 (Ah (L9 4 (Ak (CD (Ap AL AL)))))))))
 (Ah (BB CQ)))))
end
end L2.K
namespace L2.K
open PySem PySem.Spec PyProof.Rows L2.PL
def Qy(K:W.Frag):Sp:=λvs H Q _=>∃(a:Addr)(ns:List Int),vs=[.ref a]/\DH K H a (ns.map V.int)/\ns.length<=63/\∀H',Q (.bl true) H'
theorem Ui{K:W.Frag}{H:Hp}:∀ns:List Int,AX K H (ns.map PV.int) (ns.map V.int)
 |[]=>by simp[AX]
 |n::ns=>by
  rw[List.map_cons,List.map_cons,AX];exact⟨_,_,rfl,by simp[Rep],Ui ns⟩
theorem uk{K:W.Frag}{G:Hp}{a:Addr}(ns:List Int)(h:∃(o:Obj)(its:Array Value)(n:Nat),K.lookup a=some o/\o.cls=.type "tuple"/\o.data=.seq its n/\its.size<=sizeLine/\BA (ns.map V.int) its.toList):Rep K G (.tup (ns.map PV.int)) (.ref a):=by
 unfold Rep;exact⟨a,ns.map V.int,rfl,.inr h,Ui ns⟩
theorem tP{K:W.Frag}{vs:List V}{H:Hp}{Q:VK}{E:XK}(h:Qy K vs H Q E):MD K 1 OV vs H Q E:=by
 obtain⟨a,ns,rfl,hS,hl,k⟩:=h;refine⟨rfl,H,[.rd (ns.map PV.int)],.cl (.bl true),A4.refl _,?_,e9 ns hl,λv G' H' _ r=>?_⟩
 ·unfold AX;refine⟨_,_,rfl,?_,by unfold AX;rfl⟩;unfold Rep;exact⟨a,_,rfl,hS,Ui ns⟩
 ·rw[r.bl];exact k H'
theorem all_mk{l:W.OpenLaw}{w:World}{K:W.Frag}{h:Heap}{mg:Str->Option Value}{fa:Addr}(X:K.In h)(G:h.Ns mainGlobals mg)(kh:mg "law" = some (.ref fa)) {uR:Tok} {uW uX:Tok} {aQ:Addr} {UO:Obj} {nu:Nat} {uS:Tok} {uT:Tok} (d0:dR K "_law_cell" U0) (d1:dR K "_law_side" U8) (d2:dR K "_law_flat" U2) (d3:dR K "_law_plain_room" Qn) (d4:dR K "_law_winding" Qo) (d5:dR K "_law_area" Uz) (d6:dR K "_law_on" U6) (d7:dR K "_law_meet" U5) (d8:dR K "_law_good" Ql) (d9:dR K "_law_pushed" U7) (g9:dR K "_law_room" JX) (hG:dR K "all_near" Qi) (hU:dR K "turn" VE) (hV:dR K "all_bend" Qh) (h8:dR K "walls_of" Qs) (h9:dR K "are_neighbours" Us) (iA:dR K "parts" VC) (iB:dR K "lies_on" VA) (iC:dR K "meet" VB) (iD:dR K "walls_keep_apart" VF) (iE:dR K "doubled_area" Qk) (iF:dR K "is_room" Ux) (iG:dR K "check_room" Ut) (iH:dR K "passes_right_of" VD) (iI:dR K "place_within" N8) (iJ:dR K "middle_is_inside" Qq) (iK:dR K "has_line" N7) (iL:dR K "lines_of" Qp) (iM:dR K "cross" Uu) (iN:dR K "crosses_none" Qj) (iO:dR K "cut" Uv) (iP:dR K "_law_whole" U9) (iQ:dR K "_law_lines_told" U4) (iR:dR K "_law_line" U3) (iS:dR K "_law_cross" U1) (iT:dR K "_law_is_cut" Qm) (iW:dR K "rises" Qr) (iX:dR K "cuts_up" N6) (iY:dR K "is_cut" Uw) (iZ:dR K "law" Uy) (zs:bR K ["len","range","min","max","abs","set","all","sum","any","isinstance","int","bool","list","tuple"]) (wz:W.nsIn K mainGlobals "FARTHEST" = some (some (.int 100 uR))) (w9:W.nsIn K mainGlobals "ORIGIN" = some (some (.ref aQ))) (wu:K.lookup aQ=some UO) (vI:UO.cls=.type "tuple") (vG:UO.data=.seq #[.int 0 uW,.int 0 uX] nu) (w5:W.nsIn K mainGlobals "FEWEST_CORNERS" = some (some (.int 3 uS))) (w6:W.nsIn K mainGlobals "MOST_CORNERS" = some (some (.int 12 uT))) : ∃fd:FuncData,(∀(s:Shared)(v:Value),BindsTo s fd ⟨[v],[]⟩ [("script",v)])/\∀base:Heap,K.In base->base.Ns mainGlobals mg->Dp l.prog w K mg base Ez 8 fa fd ["script"] (Qy K):=by
 have PN:∃t,mg "FARTHEST" = some (.int 100 t):=⟨_,W.mg_of X G wz⟩;have TH:∃a,mg "ORIGIN" = some (.ref a)/\∀G,Rep K G (.tup [(.int 0),(.int 0)]) (.ref a):=⟨_,W.mg_of X G w9,λG=>uk [0,0] ⟨_,_,_,wu,vI,vG,(by show 2<=sizeLine;decide),(.cons ⟨_,rfl⟩ (.cons ⟨_,rfl⟩ .nil))⟩⟩;have TC:∃t,mg "FEWEST_CORNERS" = some (.int 3 t):=⟨_,W.mg_of X G w5⟩;have TF:∃t,mg "MOST_CORNERS" = some (.int 12 t):=⟨_,W.mg_of X G w6⟩;obtain⟨A6,Bb,Ie,E1,Fu,K9,FO,Ro,Hq,Ic,Rn,Rl,Jv,Rp,_⟩:=WZ X G zs;obtain⟨f,fd,F,hm⟩:=B1 X G iZ;have e:=kh.symm.trans hm;cases e;refine⟨fd,λs v=>Fq.bt F MB s [v] rfl,λbase KB _=>?_⟩;have Di:=@oe l.prog w K mg base (B1 X G d0) A6;have EG:=@oz l.prog w K mg base (B1 X G d1);have LL:=@oh l.prog w K mg base (B1 X G d2) EG Bb A6;have SQ:=@ow l.prog w K mg base (B1 X G d3) Di LL Bb;have SW:=@o4 l.prog w K mg base (B1 X G d4) Di Bb;have SI:=@oa l.prog w K mg base (B1 X G d5) Bb A6;have LN:=@ov l.prog w K mg base (B1 X G d6) EG Ie E1;have LM:=@ou l.prog w K mg base (B1 X G d7) LN EG;have SK:=@om l.prog w K mg base (B1 X G d8) LL SI LM A6 Fu E1 K9 Bb;have SS:=@ox l.prog w K mg base (B1 X G d9) Di SK Bb A6 Fu E1;have SU:=@oy l.prog w K mg base (B1 X G g9) Di SQ SW SS A6;have R8:=@oO l.prog w K mg base (B1 X G hG) Fu FO PN;have ET:=@pG l.prog w K mg base (B1 X G hU);have R7:=@oN l.prog w K mg base (B1 X G hV) ET Bb A6 FO;have Fv:=@pI l.prog w K mg base (B1 X G h8) Bb A6;have LH:=@oP l.prog w K mg base (B1 X G h9);have Ot:=@o9 l.prog w K mg base (B1 X G iA) ET;have Hs:=@o5 l.prog w K mg base (B1 X G iB) ET Ie E1;have LO:=@o7 l.prog w K mg base (B1 X G iC) Ot Hs;have Se:=@pH l.prog w K mg base (B1 X G iD) Fv LH LO Bb A6;have SE:=@oV l.prog w K mg base (B1 X G iE) Fv ET Ro TH;have SH:=@oY l.prog w K mg base (B1 X G iF) R8 R7 Se SE A6 K9 TC TF;have LI:=@oQ l.prog w K mg base (B1 X G iG) SH;have Sa:=@pC l.prog w K mg base (B1 X G iH) ET;have Sb:=@pD l.prog w K mg base (B1 X G iI) Hs Sa Hq A6;have SY:=@o8 l.prog w K mg base (B1 X G iJ) Fv Sb;have LK:=@oW l.prog w K mg base (B1 X G iK) LH Fv LO SY A6 Hq;have SX:=@o6 l.prog w K mg base (B1 X G iL) LK Bb A6;have R9:=@oR l.prog w K mg base (B1 X G iM);have LJ:=@oS l.prog w K mg base (B1 X G iN) R9 Hq;have SA:=@oT l.prog w K mg base (B1 X G iO) LI SX LJ;have Oq:=@o3 l.prog w K mg base (B1 X G iP) Ic Rn Rl;have SO:=@ot l.prog w K mg base (B1 X G iQ) Oq Ic Jv Rp A6;have SN:=@oq l.prog w K mg base (B1 X G iR) LN LM EG A6 Bb;have SJ:=@og l.prog w K mg base (B1 X G iS);have SM:=@oo l.prog w K mg base (B1 X G iT) SN SJ A6 Bb;have Sd:=@pE l.prog w K mg base (B1 X G iW) Bb A6 FO;have SD:=@oU l.prog w K mg base (B1 X G iX) Sd LK LJ A6 FO Bb;have SG:=@oX l.prog w K mg base (B1 X G iY) LI SD;exact(@oZ l.prog w K mg base _ _ F SU SA SO SM SG Jv Bb).imp λvs H Q E h=>tP h
theorem walk{l:W.OpenLaw}{q:Program}{loose:List Str}{XP:(Str->Option Value)->Heap->Prop}{YP:World->Heap->Prop}{d:DefRec}{K:Params->W.Frag}(hn:l.most=some 63)(ND:d.params.defaults=[]) (hY:∀(w:World)(h:Heap),YP w h->(K w.params).In h) (F:∀(w:World)(mg:Str->Option Value)(fa:Addr)(h:Heap),(K w.params).In h->h.Ns mainGlobals mg->mg d.name=some (.ref fa)->
  ∃fd:FuncData,(∀(s:Shared)(u:Value),BindsTo s fd ⟨[u],[]⟩ [("script",u)])/\∀base:Heap,(K w.params).In base->base.Ns mainGlobals mg->Dp l.prog w (K w.params) mg base Ez 8 fa fd ["script"] (Qy (K w.params))) :
 W.WalkO q loose XP YP l.row.toRowW d [] (λf vs=>PySem.call f vs):=
 L2.wZ (n:=63) (k:=8) (x:="script") (CX:=λ_=>Ez) (sp:=λw=>Qy (K w.params)) hn (by decide) ND ⟨rfl,by decide,by decide⟩ hY F (λ_ _ a ns hl _ hS=>⟨a,ns,rfl,hS,hl,λ_=>rfl⟩) λ_ _ _ _ _ z=>z
end L2.K
namespace PySem.W.Fast
def tw7557492625386954095:=0
def tw6147688539823975680:=0
def tw2055623218816102634:=0
def tw4741483913101626241:=0
def tw1934156223521593047:=0
def tw7806010261190849220:=0
def tw9766930287584968660:=0
def tw10766639354112215744:=0
def tw752590907061806932:=0
def tw16474918995677778728:=0
def tw11666021263598604405:=0
def tw506629033023681006:=0
def tw6149716393969510591:=0
def tw7123801064740767048:=0
def tw17991502110646142981:=0
def tw12745277831710995759:=0
def tw5746329727007829240:=0
def tw3076909239427774832:=0
def tw2556775075249818426:=0
def tw12391330128830815227:=0
def tw16484938815756439257:=0
def tw5110039257388759689:=0
def tw9284577494185233875:=0
def tw5972411335404014997:=0
def tw5343630673287273221:=0
def tw2529683147011234856:=0
def tw13652590901069770505:=0
def tw10737630580281945467:=0
def tw9432211771423187290:=0
def tw5032517761195132249:=0
def tw9087162272059383309:=0
def tw13861697460520551898:=0
def tw17228971750781044675:=0
def tw7886961962415731828:=0
def tw17191609724946797459:=0
def tw16082322916027868248:=0
def tw15895523654780754638:=0
def tw15850191905986833907:=0
def tw9457073647217798452:=0
def tw11146857063976552028:=0
def tw12578193245376979144:=0
def tw13767392151817698976:=0
def tw9556119443153044281:=0
def tw4387401985827882049:=0
def tw4758833889470967199:=0
def tw15541650585573000354:=0
def tw6425223390219631894:=0
def tw8751596850875063950:=0
def tw13198635808316466155:=0
def tw6463140183636602916:=0
def tw4455193911046121172:=0
def tw9520401516580439628:=0
def tw10422508430819658339:=0
def tw5759492012592109823:=0
def tw14625261150288651620:=0
def tw1506971189669888244:=0
def tw13666622833594608442:=0
def tw17388234080718180675:=0
def tw10691275794624305311:=0
def tw18271189244327579118:=0
def tw2639218381176109360:=0
def tw16416664771491998463:=0
def tw15996288146477132227:=0
def tw5319360469787096061:=0
def tw8215665718321933568:=0
def tw6783081223153605499:=0
def tw13088990450641102728:=0
def tw6234189052399235106:=0
def tw12641883605168926168:=0
def tw3890646203368591801:=0
def tw63467849545160299:=0
def tw7210392796972425023:=0
def tw16891922926442046853:=0
def tw16766021835646686585:=0
def tw7875475994993722220:=0
def tw18118523453016500694:=0
def tw3252786007492784930:=0
def tw7635487247172035665:=0
def tw1695006051934391677:=0
def tw1046633892603946207:=0
def tw7379711247441846224:=0
def tw11073256120694182318:=0
def tw12908776871662274841:=0
def tw5151327585201291771:=0
def tw13288658717813157320:=0
def tw12331915227688434674:=0
def tw8380520038047272691:=0
def tw15952701847285246682:=0
def tw1212460397017376478:=0
def tw3973524601108571296:=0
def tw7212089063159901690:=0
def tw3159634114743329433:=0
def tw11442993986333881772:=0
def tw1397675805574498823:=0
def tw18138540496788376703:=0
def tw16585325511513838912:=0
def tw13018357417549052393:=0
def tw1767830989993259248:=0
def tw13314750867415035489:=0
def tw17215972003148004929:=0
def tw13372871972298509420:=0
def tw3658142949713171694:=0
def tw13580225839991451420:=0
def tw4204124565542545914:=0
def tw10924857085050581021:=0
def tw10456113069046520883:=0
def tw13380459925476548645:=0
def tw3567281293682622914:=0
def tw14903146304400775747:=0
def tw9975738134529641905:=0
def tw12646458243796383604:=0
def tw12838963916774869642:=0
def tw472367629054102212:=0
def tw10483740349554670046:=0
def tw13856208091501073306:=0
def tw9339746893570425134:=0
def tw8963171772509774131:=0
def tw12786546286589222152:=0
def tw10630178315550149745:=0
def tw5633473692597687290:=0
end PySem.W.Fast
open PySem PySem.W PyProof.Rows
set_option maxRecDepth 100000 in
set_option maxHeartbeats 0 in
theorem PySem.Challenge.cw_threewards_k06_whole_a_cut_holds : PySem.Challenge.rw_threewards_k06_whole_a_cut.Holds := by
  w_on; o_law; k_head; (case hw => w_witness2)
  k_fill
  refine L2.K.walk (l := PySem.Challenge.rw_threewards_k06_whole_a_cut) rfl rfl (fun w h Y => PySem.W.kIn_of Y) ?F
  case F =>
    intro w mg fa h KX G hmg
    refine' L2.K.all_mk KX G hmg ..
    all_goals try first | k_is | (refine' L2.PL.dmk ?a ?b ?c ?d; (case a => k_is); (case b => k_is); (case c => k_is); (case d => k_is)) | (refine' ⟨?_, ?_⟩; k_is; k_exc) | exact rfl | (refine' ⟨?_, ?_⟩; k_is; refine' ⟨?_, ?_⟩; k_is; refine' ⟨?_, ?_⟩; k_is; refine' ⟨?_, ?_⟩; k_is; refine' ⟨?_, ?_⟩; k_is; refine' ⟨?_, ?_⟩; k_is; refine' ⟨?_, ?_⟩; k_is; refine' ⟨?_, ?_⟩; k_is; refine' ⟨?_, ?_⟩; k_is; refine' ⟨?_, ?_⟩; k_is; refine' ⟨?_, ?_⟩; k_is; refine' ⟨?_, ?_⟩; k_is; refine' ⟨?_, ?_⟩; k_is; refine' ⟨?_, ?_⟩; k_is; trivial)
